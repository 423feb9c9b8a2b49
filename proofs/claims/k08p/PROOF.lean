import PyProof.Rows.All
import Wide.All
import OpenK.AllK
import Wide.FinOn
import HandS.ForMost
import HandS.Wide
import HandS.Codes
import HandS.SetFor
import HandS.IsInst
import KE.GoesMore
import KE.GoesEnum
import HandS.Walk
import KE.DataMinMax
import KE.GoesRev
import KE.SortData
import HandS.More
import HandS.Style
import HandS.Rev
import HandS.TupMul
import HandS.DictComp
import HandS.Sort
import HandS.Comp
import HandS.Zip
import HandS.ForExc
import HandS.ExcInit
import HandS.ExcField
import HandS.TryMany
import HandS.HeadHook1
import HandS.HeadHook2
import HandS.HeadEnd
import HandS.ExcIs
import HandS.ExcValue
import PySem.Challenge.RW_hintslie_k08_after_a_request
import HandS.DeepEq
import HandS.OwnEq
import HandS.Defaults
import HandS.Head0
import HandS.Head1
import HandS.Head2
set_option Elab.async false
set_option linter.all false
set_option maxRecDepth 100000
set_option maxHeartbeats 4000000
namespace Toy
open PySem PySem.Spec PyProof.Rows L2
section
variable {P : Program} {w : World} {K : PySem.W.Frag} {mg : Str → Option Value} {base : Heap}
structure DefAt (K : PySem.W.Frag) (mg : Str → Option Value) (x : Str) (st : Stmt) (ps : List Str) : Prop where
  h : ∃ (f : Addr) (fd : FuncData), mg x = some (.ref f) ∧ Fun K x x st f fd ∧ Binds K fd ps []
/-- what a caller has of a def -/
def Ok (P : Program) (w : World) (K : PySem.W.Frag) (mg : Str → Option Value) (base : Heap) (k : Nat) (x : Str) (ps : List Str) (sp : Sp) : Prop :=
  ∃ (f : Addr) (fd : FuncData), mg x = some (.ref f) ∧ PySem.W.keepIn K (.ref f) = true ∧ Binds K fd ps [] ∧ FnOk P w K mg base CX0 k f fd ps sp
theorem ok_of {x : Str} {st : Stmt} {N ps : List Str} {k : Nat} {sp : Sp} (D : DefAt K mg x st ps) (S : FnScope N ps (defScope st)) (len : ∀ vs H Q E, sp vs H Q E → vs.length = ps.length)
    (hbody : ∀ (f : Addr) (cdv : Value) (A : Around) (outer : List Env) (s : Shared) (H : Hp) (vs : List V) (Q : VK) (E : XK), Room k (A.deeper (envOfC x (defScope st) s.heap.objs.size f cdv)) → sp vs H Q E →
      ∃ t, PSs (cxOf CX0 P w K mg base N x (defScope st) f cdv A outer s H E).nox (defBody st) t ∧ t { nx := fun _ H' => Q .non H', rt := Q } (start N vs) H) : Ok P w K mg base (k + 1) x ps sp := by
  obtain ⟨f, fd, m, F, b⟩ := D.h
  exact ⟨f, fd, m, F.kp, b, F.ok S len fun cdv A outer s H vs Q E hr h => hbody f cdv A outer s H vs Q E hr h⟩
structure ClsInit (K : PySem.W.Frag) (C : Addr) (qual : Str) (st : Stmt) (ps : List Str) : Prop where
  h : ∃ (f : Addr) (fd : FuncData), Mk K C f ∧ Fun K "__init__" qual st f fd ∧ Binds K fd ps []
structure MethAt (K : PySem.W.Frag) (C : Addr) (m qual : Str) (st : Stmt) (ps : List Str) : Prop where
  h : ∃ (f : Addr) (fd : FuncData), Meth K C m f ∧ Fun K m qual st f fd ∧ Binds K fd ps []
def OkI (P : Program) (w : World) (K : PySem.W.Frag) (mg : Str → Option Value) (base : Heap) (CX : CXT) (k : Nat) (x : Str) (C : Addr) (ps : List Str) (sp : Sp) : Prop :=
  ∃ (f : Addr) (fd : FuncData), mg x = some (.ref C) ∧ Mk K C f ∧ Binds K fd ps [] ∧ FnOk P w K mg base CX k f fd ps sp
def OkM (P : Program) (w : World) (K : PySem.W.Frag) (mg : Str → Option Value) (base : Heap) (CX : CXT) (k : Nat) (C : Addr) (m : Str) (ps : List Str) (sp : Sp) : Prop :=
  ∃ (f : Addr) (fd : FuncData), Meth K C m f ∧ Binds K fd ps [] ∧ FnOk P w K mg base CX k f fd ps sp
theorem okI_of {x qual : Str} {C : Addr} {st : Stmt} {N ps : List Str} {k : Nat} {sp : Sp} (hm : mg x = some (.ref C)) (D : ClsInit K C qual st ps) (S : FnScope N ps (defScope st)) (len : ∀ vs H Q E, sp vs H Q E → vs.length = ps.length)
    (hbody : ∀ (f : Addr) (cdv : Value) (A : Around) (outer : List Env) (s : Shared) (H : Hp) (vs : List V) (Q : VK) (E : XK), Room k (A.deeper (envOfC qual (defScope st) s.heap.objs.size f cdv)) → sp vs H Q E →
      ∃ t, PSs (cxOf CX0 P w K mg base N qual (defScope st) f cdv A outer s H E).nox (defBody st) t ∧ t { nx := fun _ H' => Q .non H', rt := Q } (start N vs) H) : OkI P w K mg base CX0 (k + 1) x C ps sp := by
  obtain ⟨f, fd, M, F, b⟩ := D.h
  exact ⟨f, fd, hm, M, b, F.ok S len fun cdv A outer s H vs Q E hr h => hbody f cdv A outer s H vs Q E hr h⟩
theorem okM_of {m qual : Str} {C : Addr} {st : Stmt} {N ps : List Str} {k : Nat} {sp : Sp} (D : MethAt K C m qual st ps) (S : FnScope N ps (defScope st)) (len : ∀ vs H Q E, sp vs H Q E → vs.length = ps.length)
    (hbody : ∀ (f : Addr) (cdv : Value) (A : Around) (outer : List Env) (s : Shared) (H : Hp) (vs : List V) (Q : VK) (E : XK), Room k (A.deeper (envOfC qual (defScope st) s.heap.objs.size f cdv)) → sp vs H Q E →
      ∃ t, PSs (cxOf CX0 P w K mg base N qual (defScope st) f cdv A outer s H E).nox (defBody st) t ∧ t { nx := fun _ H' => Q .non H', rt := Q } (start N vs) H) : OkM P w K mg base CX0 (k + 1) C m ps sp := by
  obtain ⟨f, fd, M, F, b⟩ := D.h
  exact ⟨f, fd, M, b, F.ok S len fun cdv A outer s H vs Q E hr h => hbody f cdv A outer s H vs Q E hr h⟩
end
/-! heaps that keep all but one object -/
def Keep (d : Addr) (H H' : Hp) : Prop := ∀ b o, b ≠ d → H b = some o → H' b = some o
theorem Keep.refl (d : Addr) (H : Hp) : Keep d H H := fun _ _ _ h => h
theorem Keep.trans {d : Addr} {H H1 H2 : Hp} (a : Keep d H H1) (b : Keep d H1 H2) : Keep d H H2 := fun c o n h => b c o n (a c o n h)
theorem Keep.same {d : Addr} {H H1 H2 : Hp} (a : Keep d H H1) (b : Same H1 H2) : Keep d H H2 := fun c o n h => b c o (a c o n h)
theorem same_keep {d : Addr} {H H1 : Hp} (a : Same H H1) : Keep d H H1 := fun c o n h => a c o h
theorem Keep.free {d l : Addr} {H H' : Hp} (e : Keep d H H') (n : l ≠ d) (h : H' l = none) : H l = none := by
  cases q : H l with
  | none => rfl
  | some o => rw [e l o n q] at h; cases h
theorem same_new {H : Hp} {p : Addr} {o : HO} (h : H p = none) : Same H (upd H p o) := fun b u e => by
  rw [upd_ne (ne_of_none e h)]; exact e
theorem Keep.upd {d : Addr} {H : Hp} {o : HO} : Keep d H (upd H d o) := fun b u n e => by
  rw [upd_ne n]; exact e
theorem yesT {σ : L2.St} {H : Hp} {A B : Hp → Prop} (h : A H) : tYes σ H (fun b H3 => if b = true then A H3 else B H3) := by
  show (fun b H3 => if b = true then A H3 else B H3) true H
  exact iteT h
/-! the dice: the list at d, the cells at c -/
structure Dice (c : Addr) (H : Hp) (d : Addr) : Prop where
  ex : ∃ (cells : List Int) (i b s t : Int), H d = some (.lst [.ref c, .int i, .int b, .int s, .int t]) ∧ H c = some (.lst (cells.map V.int)) ∧ (∀ x ∈ cells, 0 ≤ x) ∧ 0 ≤ i ∧ 0 ≤ b ∧ 0 ≤ s ∧ s < 2147483647 ∧ 0 ≤ t
section
variable {H H' : Hp} {d c p : Addr} {o : HO}
theorem Dice.some (D : Dice c H d) : ∃ o, H d = some o := by
  obtain ⟨cells, i, b, s, t, h, _⟩ := D.ex
  exact ⟨_, h⟩
theorem Dice.same (D : Dice c H d) (e : Same H H') : Dice c H' d := by
  obtain ⟨cells, i, b, s, t, h, hc, r⟩ := D.ex
  exact ⟨cells, i, b, s, t, e _ _ h, e _ _ hc, r⟩
theorem Dice.ne (D : Dice c H d) (h : H p = none) : p ≠ d := by
  obtain ⟨o, e⟩ := D.some
  intro z; subst z; rw [e] at h; cases h
theorem Dice.nc (D : Dice c H d) (h : H p = none) : p ≠ c := by
  obtain ⟨cells, i, b, s, t, e, hc, r⟩ := D.ex
  intro z; subst z; rw [hc] at h; cases h
theorem Dice.upd (D : Dice c H d) (n : p ≠ d) (m : p ≠ c) : Dice c (upd H p o) d := by
  obtain ⟨cells, i, b, s, t, e, hc, r⟩ := D.ex
  exact ⟨cells, i, b, s, t, (upd_ne n.symm).trans e, (upd_ne m.symm).trans hc, r⟩
theorem Dice.tup {xs : List V} (D : Dice c H d) (h : H p = .some (.tup xs)) : p ≠ d := by
  obtain ⟨cells, i, b, s, t, e, _⟩ := D.ex
  exact ne_of h e (by intro z; cases z)
theorem Dice.dK {xs : List (Key × V)} (D : Dice c H d) (h : H p = .some (.dK xs)) : p ≠ d := by
  obtain ⟨cells, i, b, s, t, e, _⟩ := D.ex
  exact ne_of h e (by intro z; cases z)
theorem Keep.tup {xs : List V} (k : Keep d H H') (D : Dice c H d) (h : H p = .some (.tup xs)) : H' p = .some (.tup xs) := k _ _ (D.tup h) h
theorem Keep.mut (k : Keep d H H') (h : H p = none) : Keep d H (L2.upd H' p o) := fun b u n e => by
  rw [upd_ne (ne_of_none e h)]; exact k b u n e
end
def spDice (K : PySem.W.Frag) : Sp := fun vs H Q _ => ∃ (a : Addr) (ns : List Int), vs = [.ref a] ∧ SqL K H a (ns.map V.int) ∧ ns.length ≤ 63 ∧
  ∀ d c H', Same H H' → H d = none → H c = none → Dice c H' d → Q (.ref d) H'
def spDraw : Sp := fun vs H Q _ => ∃ (d c : Addr) (n : Int), vs = [.ref d, .int n] ∧ Dice c H d ∧ 0 < n ∧ n.natAbs < 2 ^ 100 ∧
  ∀ v H', 0 ≤ v → v < n → Keep d H H' → Dice c H' d → Q (.int v) H'
/-! words -/
def abc : Str := "abcdefghijklmnopqrstuvwxyz"
structure Low (z : Str) : Prop where
  c : ∀ x ∈ z.cps.toList, 97 ≤ x ∧ x ≤ 122
structure Name (m : Int) (z : Str) : Prop where
  lo : 1 ≤ z.length
  hi : (z.length : Int) ≤ m
  low : Low z
theorem abc_at : ∀ i : Nat, i < 26 → ∃ c, abc.cps[i]? = some c ∧ 97 ≤ c ∧ c ≤ 122 := by
  have h : ∀ i : _root_.Fin 26, ∃ c, abc.cps[i.val]? = some c ∧ 97 ≤ c ∧ c ≤ 122 := by
    have e : abc.cps = #[97,98,99,100,101,102,103,104,105,106,107,108,109,110,111,112,113,114,115,116,117,118,119,120,121,122] := by decide +kernel
    intro i
    refine ⟨97 + i.val, ?_, by omega, by omega⟩
    rw [e]
    revert i
    decide
  exact fun i hi => h ⟨i, hi⟩
theorem abc_len : abc.length = 26 := by decide +kernel
theorem Low.app {z : Str} {c : Nat} (h : Low z) (a : 97 ≤ c) (b : c ≤ 122) : Low (z ++ ⟨#[c]⟩) := ⟨fun x hx => by
  have e : (z ++ (⟨#[c]⟩ : Str)).cps = z.cps ++ #[c] := rfl
  rw [e, Array.toList_append] at hx
  rcases List.mem_append.mp hx with q | q
  · exact h.c x q
  · rw [List.mem_singleton.mp q]; exact ⟨a, b⟩⟩
theorem len_app (z : Str) (c : Nat) : (z ++ (⟨#[c]⟩ : Str)).length = z.length + 1 := PySem.Str.length_append z ⟨#[c]⟩
def spWord : Sp := fun vs H Q _ => ∃ (d c : Addr) (n : Int), vs = [.ref d, .int n] ∧ Dice c H d ∧ 0 < n ∧ n ≤ 1000 ∧
  ∀ z H', Name n z → Keep d H H' → Dice c H' d → Q (.str z) H'
end Toy

namespace Toy
open PySem PySem.Spec PyProof.Rows L2
/-! pairs of lists -/
theorem prd_at1 {α β : Type} {F : α → β → Prop} : ∀ {xs : List α} {ys : List β} {i : Nat} {x : α}, Paired F xs ys → xs[i]? = some x → ∃ y, ys[i]? = some y ∧ F x y
  | _, _, _, _, .nil, e => by simp at e
  | _, _, 0, _, .cons r _, e => by simp at e; subst e; exact ⟨_, rfl, r⟩
  | _, _, i + 1, x, .cons _ t, e => by
    obtain ⟨y, h1, h2⟩ := prd_at1 (i := i) (x := x) t (by simpa using e)
    exact ⟨y, by simpa using h1, h2⟩
theorem prd_at2 {α β : Type} {F : α → β → Prop} : ∀ {xs : List α} {ys : List β} {i : Nat} {y : β}, Paired F xs ys → ys[i]? = some y → ∃ x, xs[i]? = some x ∧ F x y
  | _, _, _, _, .nil, e => by simp at e
  | _, _, 0, _, .cons r _, e => by simp at e; subst e; exact ⟨_, rfl, r⟩
  | _, _, i + 1, x, .cons _ t, e => by
    obtain ⟨y, h1, h2⟩ := prd_at2 (i := i) (y := x) t (by simpa using e)
    exact ⟨y, by simpa using h1, h2⟩
theorem prd_imp {α β : Type} {F G : α → β → Prop} : ∀ {xs : List α} {ys : List β}, Paired F xs ys → (∀ a b, F a b → G a b) → Paired G xs ys
  | _, _, .nil, _ => .nil
  | _, _, .cons r t, f => .cons (f _ _ r) (prd_imp t f)
theorem prd_len {α β : Type} {F : α → β → Prop} {xs : List α} {ys : List β} (h : Paired F xs ys) : xs.length = ys.length := PySem.Paired.length h
/-! what stands: tuples of ints, of ints or None, tuples of these, dicts of these -/
def vO : Option Int → V
  | some i => .int i
  | none => .non
def IntT (H : Hp) (v : V) (xs : List Int) : Prop := ∃ a, v = .ref a ∧ H a = some (.tup (xs.map V.int))
def OptT (H : Hp) (v : V) (xs : List (Option Int)) : Prop := ∃ a, v = .ref a ∧ H a = some (.tup (xs.map vO))
def TupT {α : Type} (R : Hp → V → α → Prop) (H : Hp) (v : V) (xs : List α) : Prop := ∃ a vs, v = .ref a ∧ H a = some (.tup vs) ∧ Paired (R H) vs xs
/-- what Keep and Same keep -/
def Firm {α : Type} (R : Hp → V → α → Prop) : Prop := ∀ (H H' : Hp) v x, (∀ a xs, H a = some (.tup xs) → H' a = some (.tup xs)) → R H v x → R H' v x
theorem same_tups {H H' : Hp} (k : Same H H') : ∀ a xs, H a = some (.tup xs) → H' a = some (.tup xs) := fun _ _ h => k _ _ h
theorem keep_tups {c d : Addr} {H H' : Hp} (k : Keep d H H') (D : Dice c H d) : ∀ a xs, H a = some (.tup xs) → H' a = some (.tup xs) := fun _ _ h => k.tup D h
theorem IntT.firm : Firm IntT := fun _ _ _ _ k ⟨a, e, h⟩ => ⟨a, e, k _ _ h⟩
theorem OptT.firm : Firm OptT := fun _ _ _ _ k ⟨a, e, h⟩ => ⟨a, e, k _ _ h⟩
theorem TupT.firm {α : Type} {R : Hp → V → α → Prop} (f : Firm R) : Firm (TupT R) := fun H H' _ _ k ⟨a, vs, e, h, p⟩ => ⟨a, vs, e, k _ _ h, prd_imp p fun x y r => f _ _ x y k r⟩
/-- a dict of texts to such -/
def DctOf {α : Type} (R : Hp → V → α → Prop) (H : Hp) (kvs : List (Key × V)) (rs : List (Str × α)) : Prop := Paired (fun (kv : Key × V) (p : Str × α) => kv.1 = .inr p.1 ∧ R H kv.2 p.2) kvs rs
theorem DctOf.firm {α : Type} {R : Hp → V → α → Prop} (f : Firm R) {H H' : Hp} {kvs : List (Key × V)} {rs : List (Str × α)} (k : ∀ a xs, H a = some (.tup xs) → H' a = some (.tup xs)) (h : DctOf R H kvs rs) : DctOf R H' kvs rs :=
  prd_imp h fun x y r => ⟨r.1, f H H' _ _ k r.2⟩
theorem dct_none {α : Type} {R : Hp → V → α → Prop} {H : Hp} {z : Str} : ∀ {kvs : List (Key × V)} {rs : List (Str × α)}, DctOf R H kvs rs → ¬ z ∈ rs.map (·.1) → valV kvs (.inr z : Key) = none
  | _, _, .nil, _ => rfl
  | kv :: kvs, p :: rs, .cons r t, h => by
    have e : ¬ kv.1 = (.inr z : Key) := fun q => h (by
      rw [r.1] at q; cases q
      exact List.mem_cons_self)
    rw [valV_neg e]
    exact dct_none t fun m => h (List.mem_cons_of_mem _ m)
theorem dct_some {α : Type} {R : Hp → V → α → Prop} {H : Hp} {z : Str} {x : α} : ∀ {kvs : List (Key × V)} {rs : List (Str × α)}, DctOf R H kvs rs → (rs.map (·.1)).Nodup → (z, x) ∈ rs → ∃ v, valV kvs (.inr z : Key) = some v ∧ R H v x
  | _, _, .nil, _, h => by cases h
  | kv :: kvs, p :: rs, .cons r t, nd, h => by
    rw [List.map_cons] at nd
    obtain ⟨n1, n2⟩ := List.nodup_cons.mp nd
    rcases List.mem_cons.mp h with e | h
    · subst e
      exact ⟨kv.2, valV_pos r.1, r.2⟩
    · have e : ¬ kv.1 = (.inr z : Key) := fun q => n1 (by
        rw [r.1] at q
        have q : p.1 = z := Sum.inr.inj q
        rw [q]
        exact List.mem_map.mpr ⟨(z, x), h, rfl⟩)
      rw [valV_neg e]
      exact dct_some t n2 h
theorem dct_len {α : Type} {R : Hp → V → α → Prop} {H : Hp} {kvs : List (Key × V)} {rs : List (Str × α)} (h : DctOf R H kvs rs) : kvs.length = rs.length := prd_len h
/-! in, count -/
theorem inV_str (z : Str) : ∀ zs : List Str, inV (.str z) (zs.map V.str) = decide (z ∈ zs)
  | [] => rfl
  | y :: zs => by
    have ih := inV_str z zs
    unfold inV at ih ⊢
    rw [List.map_cons, List.any_cons, ih]
    show ((y == z) || decide (z ∈ zs)) = decide (z ∈ y :: zs)
    by_cases e : y = z
    · subst e; simp
    · have e' : ¬ z = y := fun q => e q.symm
      simp [e, e']
theorem flat_str (zs : List Str) : (zs.map V.str).all flatV = true := by
  rw [List.all_eq_true]; intro x hx; obtain ⟨z, _, rfl⟩ := List.mem_map.mp hx; rfl
theorem flat_vO (zs : List (Option Int)) : (zs.map vO).all flatV = true := by
  rw [List.all_eq_true]; intro x hx; obtain ⟨z, _, rfl⟩ := List.mem_map.mp hx; cases z <;> rfl
theorem count_eqU {x : V} : ∀ {xs : List V} {us : List Value}, Vals xs us → xs.all flatV = true → us.countP (eqU x) = xs.countP fun y => eqV y x
  | _, _, .nil, _ => rfl
  | y :: xs, u :: us, .cons r t, f => by
    rw [List.all_cons, Bool.and_eq_true] at f
    rw [List.countP_cons, List.countP_cons, eqU_of r f.1, count_eqU t f.2]
section
variable {X : Cx}
def rCntV (K : PySem.W.Frag) : V → List V → Hp → VK → Prop := fun x xs H Q => ∃ (p : Addr) (ys : List V) (k : V), x = .ref p ∧ xs = [k] ∧ SqL K H p ys ∧ ys.all flatV = true ∧ flatV k = true ∧ Q (.int ((ys.countP fun y => eqV y k) : Nat)) H
theorem mt_countV : MtR X "list.count" (rCntV X.K) := by
  intro pins s σ H x xs v us Q I rx rxs h
  obtain ⟨p, ys, k, rfl, rfl, hs, fs, fk, q⟩ := h
  cases rx
  obtain ⟨u, rfl, ru⟩ := rxs.one
  obtain ⟨its, rv, ⟨⟨cls, dd, data, sl⟩, n, ho, hc, hdn, hd⟩, hlen⟩ := I.list hs
  simp only at hc hd
  subst hc hd
  refine call_meets PySem.F.slot_list_count ⟨_, ho, rfl⟩ PySem.F.entry_list_count (PySem.F.args_list_count_2 _ _)
    (SeqAt.list_countAt p its.toArray n dd sl u (eqU k)) ⟨ho, fun y hy => mem_eqAt ru fk rv fs y (by simpa using hy), ?_⟩
  have ec : its.toArray.toList.countP (eqU k) = ys.countP fun y => eqV y k := count_eqU rv fs
  refine ⟨.int ((ys.countP fun y => eqV y k) : Nat), H, I.tok _, ⟨s.toks, ?_⟩, q⟩
  rw [ec]
end
theorem cnt_non : ∀ zs : List (Option Int), ((zs.map vO).countP fun y => eqV y .non) = zs.countP fun y => y.isNone
  | [] => rfl
  | z :: zs => by
    rw [List.map_cons, List.countP_cons, List.countP_cons, cnt_non zs]
    cases z <;> rfl
/-! what the drawing defs promise -/
def spNames : Sp := fun vs H Q _ => ∃ (d c : Addr) (n m : Int), vs = [.ref d, .int n, .int m] ∧ Dice c H d ∧ 0 < n ∧ n ≤ 1000 ∧ 0 < m ∧ m ≤ 1000 ∧
  ∀ (l : Addr) (zs : List Str) (H' : Hp), H l = none → H' l = some (.lst (zs.map V.str)) → zs.Nodup → 1 ≤ zs.length → (zs.length : Int) ≤ n → (∀ z ∈ zs, Name m z) → Keep d H H' → Dice c H' d → Q (.ref l) H'
structure Square (n top : Int) (rows : List (List Int)) : Prop where
  len : (rows.length : Int) = n
  row : ∀ r ∈ rows, (r.length : Int) = n ∧ ∀ x ∈ r, 0 ≤ x ∧ x ≤ top
  diag : ∀ (i : Nat) r, rows[i]? = some r → r[i]? = some 0
def spMoves : Sp := fun vs H Q _ => ∃ (d c : Addr) (n top : Int), vs = [.ref d, .int n, .int top] ∧ Dice c H d ∧ 0 < n ∧ n ≤ 1000 ∧ 0 ≤ top ∧ top ≤ 1000 ∧
  ∀ v rows H', TupT IntT H' v rows → Square n top rows → Keep d H H' → Dice c H' d → Q v H'
structure Prices (n top : Int) (row : List (Option Int)) : Prop where
  len : (row.length : Int) = n
  rng : ∀ x, some x ∈ row → 0 ≤ x ∧ x ≤ top
  some : ∃ x, some x ∈ row
def spPrices : Sp := fun vs H Q _ => ∃ (d c : Addr) (n top : Int), vs = [.ref d, .int n, .int top] ∧ Dice c H d ∧ 0 < n ∧ n ≤ 1000 ∧ 0 ≤ top ∧ top ≤ 1000 ∧
  ∀ v row H', OptT H' v row → Prices n top row → Keep d H H' → Dice c H' d → Q v H'
def spRequests (K : PySem.W.Frag) : Sp := fun vs H Q _ => ∃ (d c l : Addr) (zs : List Str) (n top : Int), vs = [.ref d, .ref l, .int n, .int top] ∧ Dice c H d ∧ H l = some (.lst (zs.map V.str)) ∧ zs.length ≤ 1000 ∧ l ≠ d ∧ zs.Nodup ∧ 0 < n ∧ n ≤ 1000 ∧ 0 ≤ top ∧ top ≤ 1000 ∧
  ∀ p kvs rs H', H p = none → H' p = some (.dK kvs) → DctOf OptT H' kvs rs → rs.map (·.1) = zs → (∀ q ∈ rs, Prices n top q.2) → Keep d H H' → Dice c H' d → Q (.ref p) H'
end Toy

namespace Toy
open PySem PySem.Spec PyProof.Rows L2
/-! enumerate of a tuple -/
set_option maxHeartbeats 2000000 in
theorem meets_enum1 {v : Value} {o : Obj} {G : Heap → Prop} (B : Begins v o G) :
    Meets (Builtin.«enumerate.__new__» ⟨[.type "enumerate", v], []⟩) (fun _ R s => G s.heap ∧
      R (.ok (.ret (.ref (s.heap.push o).objs.size))) { s with heap := (s.heap.push o).push { cls := .type "enumerate", data := .fields #[.none, .bool false, .ref s.heap.objs.size, rawInt 0, .none, .none] } }) :=
  .of_wp fun prog w A R s h => by
    obtain ⟨hp, g, d, tk, os⟩ := s
    obtain ⟨h1, h⟩ := h
    have hsub := sub_enumerate
    have qB : ∀ {A' : Around} {E : Value → Shared → Prop} {Q : Value → Shared → Prop}, Q (.ref hp.objs.size) ⟨hp.push o, g, d, tk, os⟩ → wpAny (model prog w) A' (pyIter v) Q E ⟨hp, g, d, tk, os⟩ :=
      fun z => B.iter prog w _ _ ⟨hp, g, d, tk, os⟩ _ h1 z
    wp_walk using qB
    refine wpAny_stack_any fun st => wpAny_pure ?_
    split
    · rename_i c _ _ _ _ _
      cases (c == Value.type "enumerate")
      all_goals (wp_walk using qB; exact ⟨_, rfl, h⟩)
    · wp_walk using qB
      exact ⟨_, rfl, h⟩
section
variable {prog : Program} {w : World} {A : Around} {E : Value → Shared → Prop} {s : Shared}
theorem enum1 {v : Value} {o : Obj} {G : Heap → Prop} {Q : Value → Shared → Prop} (B : Begins v o G) (h1 : G s.heap)
    (h : ∀ h', IsEnum h' (s.heap.objs.size + 1) s.heap.objs.size 0 .none → h'.get? s.heap.objs.size = some o → (∀ b u, s.heap.get? b = some u → h'.get? b = some u) → Q (.ref (s.heap.objs.size + 1)) { s with heap := h' }) :
    wpAny (model prog w) A (call (.type "enumerate") [v]) Q E s := by
  refine callType_new F.called_enumerate (by decide) (F.typeCall_enumerate_1 _) (F.newCall_enumerate_1 _) (fun ob => F.args_object_init_2 ob _) F.entry_enumerate_new (meets_enum1 B) ⟨h1, ?_⟩
  have hz : (s.heap.push o).objs.size = s.heap.objs.size + 1 := Heap.size_push ..
  show _ ∧ _
  rw [hz]
  have he : IsEnum ((s.heap.push o).push { cls := .type "enumerate", data := .fields #[.none, .bool false, .ref s.heap.objs.size, rawInt 0, .none, .none] }) (s.heap.objs.size + 1) s.heap.objs.size 0 .none := by
    have q := Heap.get?_push_size (s.heap.push o) (o := { cls := .type "enumerate", data := .fields #[.none, .bool false, .ref s.heap.objs.size, rawInt 0, .none, .none] }) rfl
    rw [hz] at q
    exact q
  exact ⟨⟨_, he, rfl⟩, h _ he (Heap.get?_push_of_some _ (Heap.get?_push_size _ B.free)) fun b u x => Heap.get?_push_of_some _ (Heap.get?_push_of_some _ x)⟩
end
def ItEt (K : PySem.W.Frag) (a : Addr) : It :=
  ⟨fun i H => ∃ (xs : List V) (x : V), SqT K H a xs ∧ xs[i]? = some x, fun i H v H' => ∃ T x, v = .ref T ∧ H T = none ∧ H' = upd H T (.tup [.int (i : Nat), x]) ∧ ∀ xs, SqT K H a xs → xs[i]? = some x, fun i H => ∃ xs : List V, SqT K H a xs ∧ xs.length = i⟩
theorem turn_enumT {P : Program} {w : World} {K : PySem.W.Frag} {elts : List Expr} {kk : Nat} {tpos : Pos} (a e it : Addr) :
    Turn P w K (.Tuple elts kk tpos) (ItEt K a) [e, it] e (fun i h => (∃ old, IsEnum h e it ((i : Nat) : Int) old) ∧ h.IsTupleIter it a i ∧ e ≠ it ∧ a ≠ it ∧ a ≠ e) where
  mem := by simp
  obj := fun i h st b hb => by
    obtain ⟨⟨old, he⟩, ⟨o, ho, hc, hd⟩, _⟩ := st
    rcases (by simpa using hb : b = e ∨ b = it) with z | z
    · rw [z]; exact ⟨_, he, fun v q => nomatch q⟩
    · rw [z]; exact ⟨o, ho, fun v q => by rw [hd] at q; cases q⟩
  keep := fun i h h' st k => by
    obtain ⟨⟨old, he⟩, hi, hne⟩ := st
    exact ⟨⟨old, k e (by simp) _ he⟩, hi.at fun o q => k it (by simp) o q, hne⟩
  item := by
    intro X hP hw hK hc i pins s σ H E I hf st hg
    subst hP hw hK
    obtain ⟨⟨old, he⟩, hit, hne, hai, hae⟩ := st
    obtain ⟨xs, x, hq, hx⟩ := hg
    obtain ⟨its, rv, p, hz⟩ := I.tuple hq
    obtain ⟨u, hu, ru⟩ := rv.get hx
    have hel : e < s.heap.objs.size := Heap.lt_size he
    have hil : it < s.heap.objs.size := by obtain ⟨_, q, _⟩ := hit; exact Heap.lt_size q
    have hlt : i < its.toArray.size := by
      rw [List.size_toArray]; exact (List.getElem?_eq_some_iff.mp hu).1
    have hh : X.A.in1.handled = none := I.ok.hd hc
    refine wpAny_pyNext_enum_itemD (Draws.tuple (prog := X.prog) (w := X.w) hh it a hai its.toArray) he ⟨hit, p⟩ hlt hne (by simp [hne, Ne.symm hae]) fun u' h' tk hP ho hst hT hsz hk => ?_
    have eu : u' = u := by
      have hP : its.toArray[i]? = some u' := hP
      rw [List.getElem?_toArray, hu] at hP
      exact (Option.some.inj hP).symm
    subst eu
    refine ⟨_, rfl, wpAny_letOwnedTupleGo_enum (s := { s with heap := h', toks := tk + 1 }) ho fun h'' he' sb => ?_⟩
    have hT2 : h''.get? s.heap.objs.size = some { cls := .type "tuple", data := .seq #[.int i tk, u'] } := (sb.2 _ (Nat.ne_of_gt hel)).trans hT
    have new : ObjOk X.prog X.w (upd H s.heap.objs.size (.tup [.int (i : Nat), x])) h'' s.heap.objs.size (.tup [.int (i : Nat), x]) :=
      ⟨(by show 2 ≤ sizeLine; decide), [.int i tk, u'], .cons ⟨_, rfl⟩ (.cons ru .nil), ⟨_, hT2, rfl, _, rfl⟩⟩
    have I1 : Inv X pins σ (upd H s.heap.objs.size (.tup [.int (i : Nat), x])) { s with heap := h'', toks := tk + 1 } :=
      I.turnedNew (ch := [e, it]) (fun b ob hb q => (sb.2 b (fun z => hb (by simp [z]))).trans (hk b ob (fun z => hb (by simp [z])) (fun z => hb (by simp [z])) q)) hf (Nat.le_refl _) new
    refine ⟨.ref s.heap.objs.size, _, I1, rfl, ⟨_, x, rfl, I.hok.fresh (Nat.le_refl _), rfl, fun ys hy => by rw [I.tuple_inj hy hq]; exact hx⟩, ⟨⟨u', ?_⟩, hst.1.at fun o q => (sb.2 it (Ne.symm hne)).trans q, hne, hai, hae⟩, fun b hb => ?_⟩
    · rw [show ((i + 1 : Nat) : Int) = (i : Int) + 1 by omega]
      exact he'
    · have hb' : b < s.heap.objs.size := by
        rcases (by simpa using hb : b = e ∨ b = it) with z | z
        · rw [z]; exact hel
        · rw [z]; exact hil
      rw [upd_ne (Nat.ne_of_lt hb')]
      exact (hf b hb).1
  done := by
    intro X hP hw hK hc i pins s σ H E I hf st hg
    subst hP hw hK
    obtain ⟨⟨old, he⟩, hit, hne, hai, hae⟩ := st
    obtain ⟨xs, hq, hx⟩ := hg
    obtain ⟨its, rv, p, hz⟩ := I.tuple hq
    have hh : X.A.in1.handled = none := I.ok.hd hc
    obtain ⟨f0, f1, f2, f3, f4, f5⟩ := hf it (by simp)
    have hn : its.toArray.size = i := by rw [List.size_toArray, ← rv.length]; exact hx
    exact wpAny_pyNext_enum_endD (Draws.tuple (prog := X.prog) (w := X.w) hh it a hai its.toArray) he ⟨by rw [hn]; exact hit, p⟩ fun h' eb => ⟨rfl, I.turned (t' := s.toks) (fun b o hb q => eb b o hb q) f0 f1 f3 f4 f5⟩
  self := fun A i s Q E st h => by
    obtain ⟨⟨_, he⟩, _⟩ := st
    exact wpAny_pyIter_enum he h
def iEnT (K : PySem.W.Frag) (ta : TA) : TI := fun σ H R => ta σ H fun vs H1 => ∃ a xs, vs = [.ref a] ∧ SqT K H1 a xs ∧ R (ItEt K a) H1
theorem pi_enumT {X : Cx} {e : Expr} {ta : TA} {p pos tpos : Pos} {elts : List Expr} {kk : Nat} (hg : Gl X "enumerate") (hm : X.mg "enumerate" = none) (ha : PA X [e] ta) (hs : starEach [e] X.env = [(false, eval e X.env)] := by rfl) :
    PI X (.Tuple elts kk tpos) (.Call (.Name "enumerate" p) [e] [] pos) (iEnT X.K ta) := by
  refine ⟨fun pins s σ H R I h => ?_⟩
  refine Call_ (ld_blt I hg hm boot_enumerate (PyProof.Rows.callWith_type1 (thn (ha.run pos pins s σ H _ I h) fun us s1 ⟨vs, H1, I1, r1, q1⟩ => ?_) hs rfl))
  obtain ⟨a, xs, ex, hq, q⟩ := q1
  subst ex
  cases r1 with
  | cons r rr =>
    cases rr
    cases r
    obtain ⟨its, rv, p', hz⟩ := I1.tuple hq
    refine enum1 (begins_tuple a its.toArray) p' fun h' he hit hk => wpAny_pyIter_enum he ?_
    have I2 : Inv X pins σ H1 { s1 with heap := h' } := I1.kept (t' := s1.toks) hk
    have hal : a < s1.heap.objs.size := by obtain ⟨_, q, _⟩ := p'; exact Heap.lt_size q
    refine ⟨s1.heap.objs.size + 1, [s1.heap.objs.size + 1, s1.heap.objs.size], _, _, H1, rfl, I2, turn_enumT a (s1.heap.objs.size + 1) s1.heap.objs.size, ⟨⟨.none, he⟩, ⟨_, hit, rfl, rfl⟩, Nat.succ_ne_self _, Nat.ne_of_lt hal, Nat.ne_of_lt (Nat.lt_succ_of_lt hal)⟩, fun b hb => ?_, q⟩
    have hle : s1.heap.objs.size ≤ b := by
      rcases (by simpa using hb : b = s1.heap.objs.size + 1 ∨ b = s1.heap.objs.size) with z | z
      · rw [z]; exact Nat.le_add_right _ _
      · rw [z]; exact Nat.le_refl _
    exact I1.fpOk hle (I1.hok.fresh hle)
theorem walk_enumT {K : PySem.W.Frag} {a : Addr} {xs : List V} : Walk (ItEt K a) xs.length (fun H => SqT K H a xs) (YPair (fun i => some (.int (i : Nat))) (fun i => xs[i]?)) :=
  ⟨fun i _ hi q => ⟨xs, xs[i], q, by simp [hi]⟩, fun _ q => ⟨xs, q, rfl⟩, fun i H v H' _ q ⟨T, x, e1, e2, e3, e4⟩ => ⟨T, _, x, e1, e2, e3, rfl, e4 xs q⟩⟩
end Toy

namespace Toy
open PySem PySem.Spec PyProof.Rows L2
/-! isinstance, by the names of the built-in types -/
def tyN (H : Hp) : V → Option String
  | .non => some "NoneType"
  | .bl _ => some "bool"
  | .int _ => some "int"
  | .str _ => some "str"
  | .ref a => match H a with
    | some (.lst _) => some "list"
    | some (.tup _) => some "tuple"
    | some (.dK _) => some "dict"
    | some (.dT _) => some "dict"
    | _ => none
  | _ => none
theorem tyN_x {K : PySem.W.Frag} {H : Hp} {v : V} {n : String} (h : tyN H v = some n) : TyX K H v (.type n) := by
  cases v with
  | non => cases h; exact .base .non
  | bl b => cases h; exact .base (.bl b)
  | int i => cases h; exact .base (.int i)
  | str z => cases h; exact .base (.str z)
  | ref a =>
    unfold tyN at h
    cases e : H a with
    | none => simp only [e] at h; cases h
    | some o =>
      cases o with
      | lst xs => simp only [e] at h; cases h; exact .base (.lst e)
      | tup xs => simp only [e] at h; cases h; exact .base (.tup e)
      | dK kvs => simp only [e] at h; cases h; exact .base (.dK e)
      | dT kvs => simp only [e] at h; cases h; exact .base (.dT e)
      | _ => simp only [e] at h; cases h
  | _ => cases h
theorem tyN_keep {H H' : Hp} {v : V} {n : String} (k : Same H H') (h : tyN H v = some n) : tyN H' v = some n := by
  cases v with
  | ref a =>
    cases e : H a with
    | none => unfold tyN at h; simp only [e] at h; cases h
    | some o => have e' := k a o e; unfold tyN at h ⊢; simp only [e, e'] at h ⊢; exact h
  | _ => exact h
section
variable {X : Cx}
def rIsN (T : String) : List V → Hp → VK → Prop := fun xs H Q => ∃ (x : V) (n : String) (b : Bool), xs = [x, .ty T] ∧ tyN H x = some n ∧ kitB n T = some b ∧ Q (.bl b) H
theorem call_isN {T : String} : CallR X (.builtin "isinstance") (rIsN T) := by
  intro pins s σ H xs us Q I r h
  obtain ⟨x, n, b, e, h1, h2, q⟩ := h
  exact call_isi pins s σ H xs us Q I r ⟨x, .ty T, _, _, b, e, .ty T, tyN_x h1, kit_ty h2, q⟩
/-- isinstance(x, (T, U)) -/
def rIsN2 (T U : String) : List V → Hp → VK → Prop := fun xs H Q => ∃ (x : V) (tp : Addr) (n : String) (b : Bool), xs = [x, .ref tp] ∧ H tp = some (.tup [.ty T, .ty U]) ∧ tyN H x = some n ∧ (n = T → b = true) ∧ (n = U → b = true) ∧
  ((∃ b1 b2, kitB n T = some b1 ∧ kitB n U = some b2 ∧ b = (b1 || b2)) ∧ Q (.bl b) H)
theorem call_isN2 {T U : String} : CallR X (.builtin "isinstance") (rIsN2 T U) := by
  intro pins s σ H xs us Q I r h
  obtain ⟨x, tp, n, b, e, ht, h1, _, _, ⟨b1, b2, k1, k2, eb⟩, q⟩ := h
  refine call_isiT pins s σ H xs us Q I r ⟨x, tp, _, _, [.type T, .type U], b, e, ht, .cons (.ty T) (.cons (.ty U) .nil), tyN_x h1, ?_, q⟩
  refine kitAny_cons (kit_ty k1) (fun z => kitAny_cons (kit_ty k2) (fun z2 => ?_) (fun z2 => ?_)) (fun z => ?_)
  · rw [eb, z, z2]; exact kitAny_nil
  · rw [eb, z, z2]; rfl
  · rw [eb, z]; rfl
/-! in: a list, a tuple, a dict -/
def rInDct : R2 := fun x y H Q => ∃ a o, y = .ref a ∧ DGet H a x o ∧ Q (.bl o.isSome) H
theorem op_in_dct (hu : X.A.units + 1 < cLine) : OpR X (compareOp .In) rInDct := by
  intro pins s σ H x y v u Q I rx ry h
  obtain ⟨a, o, rfl, g, q⟩ := h
  obtain rfl : u = Value.ref a := ry
  exact d_in hu I g rx fun s3 I3 => ⟨.bl o.isSome, H, I3, rfl, q⟩
theorem op_or {f : Value → Value → Sem Value} {r r' : R2} (h : OpR X f r) (h' : OpR X f r') : OpR X f (fun x y H Q => r x y H Q ∨ r' x y H Q) := by
  intro pins s σ H x y v u Q I rx ry q
  rcases q with q | q
  · exact h pins s σ H x y v u Q I rx ry q
  · exact h' pins s σ H x y v u Q I rx ry q
theorem call_or {f : Value} {r r' : List V → Hp → VK → Prop} (h : CallR X f r) (h' : CallR X f r') : CallR X f (fun xs H Q => r xs H Q ∨ r' xs H Q) := by
  intro pins s σ H xs us Q I rs q
  rcases q with q | q
  · exact h pins s σ H xs us Q I rs q
  · exact h' pins s σ H xs us Q I rs q
/-! ranges as values -/
theorem cr_rng1 : CallR X (.type "range") (fun vs H Q => ∃ j, vs = [V.int j] ∧ ∀ p, H p = none → Q (.ref p) (upd H p (.rng 0 j))) := by
  intro pins s σ H vs us Q I r h
  obtain ⟨j, rfl, q⟩ := h
  obtain ⟨u1, rfl, rj⟩ := vals1 r
  obtain ⟨t, rfl⟩ := rj
  refine call_range_1 ⟨.ref s.heap.objs.size, upd H s.heap.objs.size (.rng 0 j), I.laid (t' := s.toks + 1 + 1) (fun b o e => Heap.get?_push_of_some _ e) (Nat.le_refl _) ?_, rfl, q _ (I.hok.fresh (Nat.le_refl _))⟩
  exact ⟨_, _, _, Heap.get?_push_size _ rfl⟩
def iRngV (te : TE) : TI := fun σ H R => te σ H fun x H1 => ∃ (a : Addr) (lo hi : Int), x = .ref a ∧ H1 a = some (.rng lo hi) ∧ -(2 ^ 62) ≤ lo ∧ lo < 2 ^ 62 ∧ -(2 ^ 62) ≤ hi ∧ hi < 2 ^ 62 ∧ R (Itr lo (hi - lo).toNat) H1
theorem pi_rngV {tg e : Expr} {te : TE} (he : PE X e te) : PI X tg e (iRngV te) := by
  refine ⟨fun pins s σ H R I h => ?_⟩
  refine thn (he.run pins s σ H _ I h) fun v s1 ⟨x, H1, I1, rx, a, lo, hi, ex, ha, h1, h2, h3, h4, q⟩ => ?_
  subst ex
  obtain rfl : v = Value.ref a := rx
  obtain ⟨t, u, w', ho⟩ := I1.hok a _ ha
  have hn : Builtin.Range.rangeSize lo hi 1 = (((hi - lo).toNat : Nat) : Int) := by
    unfold Builtin.Range.rangeSize
    split <;> split <;> omega
  refine range_begins (n := (hi - lo).toNat) ho (small_one h1 h2 h3 h4) hn fun h' hit hsz hk => ?_
  have I2 : Inv X pins σ H1 { s1 with heap := h' } := I1.kept (t' := s1.toks) hk
  refine ⟨s1.heap.objs.size, [s1.heap.objs.size], _, _, H1, rfl, I2, turn_range _ lo (hi - lo).toNat, range_st hit, fun b hb => ?_, q⟩
  obtain rfl : b = s1.heap.objs.size := by simpa using hb
  exact I1.fpOk (Nat.le_refl _) (I1.hok.fresh (Nat.le_refl _))
/-! min of a list of data -/
def rMinD (K : PySem.W.Frag) : List V → Hp → VK → Prop := fun vs H Q => ∃ (a : Addr) (xs : List V) (d : PyData) (ds : List PyData), vs = [.ref a] ∧ SqL K H a xs ∧ DpAll K H xs (d :: ds) ∧ PySem.W.AlikeAll (d :: ds) ∧ PyData.depthAll (d :: ds) ≤ 60 ∧
  ∀ (i : Nat) v, xs[i]? = some v → (d :: ds)[i]? = some (PySem.W.minD d ds) → Q v H
theorem dp_at {K : PySem.W.Frag} {H : Hp} : ∀ {xs : List V} {ds : List PyData} {i : Nat} {v : V}, DpAll K H xs ds → xs[i]? = some v → ∃ d, ds[i]? = some d ∧ Dp K H v d
  | _, _, _, _, .nil, e => by simp at e
  | _, _, 0, _, .cons r _, e => by simp at e; subst e; exact ⟨_, rfl, r⟩
  | _, _, i + 1, x, .cons _ t, e => by
    obtain ⟨y, h1, h2⟩ := dp_at (i := i) (v := x) t (by simpa using e)
    exact ⟨y, by simpa using h1, h2⟩
theorem cr_minD (hc : X.calm = true) (hu : X.A.units + 64 < cLine) : CallR X (.builtin "min") (rMinD X.K) := by
  intro pins s σ H vs us Q I r h
  obtain ⟨a, xs, d, ds, rfl, hs, hd, al, hz, q⟩ := h
  obtain ⟨u, rfl, ru⟩ := vals1 r
  obtain rfl : u = Value.ref a := ru
  obtain ⟨its, rv, p, _⟩ := I.list hs
  obtain ⟨as, hr⟩ := Dp.readsAll I (d :: ds) xs its hd rv
  refine PySem.W.min_list_data (I.ok.hd hc) p.isList (by simpa using hr) al (by omega) fun i v h' tk bs hv hrd hk => ?_
  rw [List.getElem?_toArray] at hv
  obtain ⟨x, hx, rx⟩ := prd_at2 rv hv
  obtain ⟨e, he, de⟩ := dp_at hd hx
  obtain ⟨cs, hre⟩ := Dp.reads I e x v de rx
  have hre' : Reads h' v e cs := PySem.W.reads_keeps hk hre
  have eq1 := hrd.unique e cs hre'
  refine ⟨x, H, I.kept (t' := tk) hk, rx, q i x hx ?_⟩
  rw [he, eq1.1]
end
end Toy

namespace Toy
open PySem PySem.Spec PyProof.Rows L2
theorem tyN_mem {H : Hp} {v : V} {n : String} (h : tyN H v = some n) : n ∈ ["NoneType", "bool", "int", "str", "list", "tuple", "dict"] := by
  cases v with
  | ref a =>
    unfold tyN at h
    cases e : H a with
    | none => simp only [e] at h; cases h
    | some o => cases o <;> simp only [e] at h <;> cases h <;> simp
  | _ => cases h <;> simp
theorem kit7_all : ∀ n ∈ ["NoneType", "bool", "int", "str", "list", "tuple", "dict"], ∀ T ∈ ["bool", "int", "str", "list", "tuple", "dict"], kitB n T = some (n == T || (n == "bool" && T == "int")) := by
  decide +kernel
theorem kit7 {H : Hp} {v : V} {n T : String} (h : tyN H v = some n) (hT : T ∈ ["bool", "int", "str", "list", "tuple", "dict"]) : kitB n T = some (n == T || (n == "bool" && T == "int")) := kit7_all n (tyN_mem h) T hT
theorem tyN_int {H : Hp} {v : V} (h : tyN H v = some "int") : ∃ i, v = .int i := by
  cases v with
  | int i => exact ⟨i, rfl⟩
  | ref a =>
    unfold tyN at h
    cases e : H a with
    | none => simp only [e] at h; cases h
    | some o => cases o <;> simp only [e] at h <;> simp at h
  | _ => simp [tyN] at h
theorem tyN_str {H : Hp} {v : V} (h : tyN H v = some "str") : ∃ i, v = .str i := by
  cases v with
  | str i => exact ⟨i, rfl⟩
  | ref a =>
    unfold tyN at h
    cases e : H a with
    | none => simp only [e] at h; cases h
    | some o => cases o <;> simp only [e] at h <;> simp at h
  | _ => simp [tyN] at h
theorem tyN_tup {H : Hp} {v : V} (h : tyN H v = some "tuple") : ∃ a xs, v = .ref a ∧ H a = some (.tup xs) := by
  cases v with
  | ref a =>
    unfold tyN at h
    cases e : H a with
    | none => simp only [e] at h; cases h
    | some o =>
      cases o with
      | tup xs => exact ⟨a, xs, rfl, e⟩
      | _ => simp only [e] at h <;> simp at h
  | _ => simp [tyN] at h
def spIsInt : Sp := fun vs H Q _ => ∃ (v : V) (n : String), vs = [v] ∧ tyN H v = some n ∧ Q (.bl (n == "int")) H
theorem tyN_bl {H : Hp} {v : V} (h : tyN H v = some "bool") : ∃ i, v = .bl i := by
  cases v with
  | bl i => exact ⟨i, rfl⟩
  | ref a =>
    unfold tyN at h
    cases e : H a with
    | none => simp only [e] at h; cases h
    | some o => cases o <;> simp only [e] at h <;> simp at h
  | _ => simp [tyN] at h
def isI : V → Bool
  | .int _ => true
  | _ => false
def isNat : V → Bool
  | .int i => decide (0 ≤ i)
  | _ => false
def isBelow (m : Int) : V → Bool
  | .int i => decide (0 ≤ i ∧ i < m)
  | _ => false
theorem isI_n {H : Hp} {v : V} {n : String} (h : tyN H v = some n) : (n == "int") = isI v := by
  cases v with
  | ref a =>
    unfold tyN at h
    cases e : H a with
    | none => simp only [e] at h; cases h
    | some o => cases o <;> simp only [e] at h <;> cases h <;> rfl
  | _ => cases h <;> rfl
theorem isNat_no {v : V} (h : isI v = false) : isNat v = false := by cases v <;> first | rfl | cases h
theorem isBelow_no {m : Int} {v : V} (h : isNat v = false) : isBelow m v = false := by
  cases v with
  | int i =>
    have h : decide (0 ≤ i) = false := h
    have h := of_decide_eq_false h
    exact decide_eq_false fun z => h z.1
  | _ => rfl
/-- texts: 1 to 8 letters -/
def isNm : V → Bool
  | .str z => decide (1 ≤ z.length ∧ z.length ≤ 8 ∧ ∀ c ∈ z.cps.toList, 97 ≤ c ∧ c ≤ 122)
  | _ => false
theorem dec_int (a b : Int) : decide (V.int a = V.int b) = decide (a = b) := by
  by_cases e : a = b
  · subst e; simp
  · have h : ¬ V.int a = V.int b := fun q => e (by injection q)
    rw [decide_eq_false h, decide_eq_false e]
def spIsInteger : Sp := fun vs H Q _ => ∃ (v : V) (n : String), vs = [v] ∧ tyN H v = some n ∧ Q (.bl (isI v)) H
def spIsNatural : Sp := fun vs H Q _ => ∃ (v : V) (n : String), vs = [v] ∧ tyN H v = some n ∧ Q (.bl (isNat v)) H
def spIsBelow : Sp := fun vs H Q _ => ∃ (v : V) (n : String) (m : Int), vs = [v, .int m] ∧ tyN H v = some n ∧ Q (.bl (isBelow m v)) H
def spIsRow : Sp := fun vs H Q _ => ∃ (v : V) (n : String), vs = [v] ∧ tyN H v = some n ∧ ∀ H', Same H H' → Q (.bl (n == "list" || n == "tuple")) H'
def spIsPrice : Sp := fun vs H Q _ => ∃ (v : V) (n : String), vs = [v] ∧ tyN H v = some n ∧ Q (.bl (isBelow 10 v)) H
/-- a tuple of so many -/
def isTup (H : Hp) (m : Int) : V → Bool
  | .ref a => match H a with
    | some (.tup xs) => decide ((xs.length : Int) = m)
    | _ => false
  | _ => false
theorem isTup_no {H : Hp} {m : Int} {v : V} {n : String} (h : tyN H v = some n) (hn : (n == "tuple") = false) : isTup H m v = false := by
  cases v with
  | ref a =>
    unfold tyN at h; unfold isTup
    cases e : H a with
    | none => simp only [e]
    | some o => cases o <;> simp only [e] at h ⊢ <;> cases h <;> simp at hn
  | _ => rfl
def spIsTupleOf : Sp := fun vs H Q _ => ∃ (v : V) (n : String) (m : Int), vs = [v, .int m] ∧ tyN H v = some n ∧ Q (.bl (isTup H m v)) H
theorem abc_mem (c : Nat) : decide (c ∈ (Str.ofString "abcdefghijklmnopqrstuvwxyz").cps.toList) = decide (97 ≤ c ∧ c ≤ 122) := by
  have e : (Str.ofString "abcdefghijklmnopqrstuvwxyz").cps.toList = [97,98,99,100,101,102,103,104,105,106,107,108,109,110,111,112,113,114,115,116,117,118,119,120,121,122] := by decide +kernel
  rw [e]
  have h : (c ∈ [97,98,99,100,101,102,103,104,105,106,107,108,109,110,111,112,113,114,115,116,117,118,119,120,121,122]) ↔ (97 ≤ c ∧ c ≤ 122) := by
    simp only [List.mem_cons, List.not_mem_nil, or_false]
    omega
  exact decide_eq_decide.mpr h
/-- name in names: a tuple or list of texts, or a dict of texts -/
def spIsKnown : Sp := fun vs H Q _ => ∃ (z : Str) (v : V), vs = [.str z, v] ∧
  ((∃ (a : Addr) (zs : List Str), v = .ref a ∧ (H a = some (.tup (zs.map V.str)) ∨ H a = some (.lst (zs.map V.str))) ∧ Q (.bl (decide (z ∈ zs))) H) ∨ ∃ (a : Addr) (kvs : List (Key × V)), v = .ref a ∧ H a = some (.dK kvs) ∧ Q (.bl (valV kvs (.inr z : Key)).isSome) H)
def spIsName : Sp := fun vs H Q _ => ∃ (v : V) (n : String), vs = [v] ∧ tyN H v = some n ∧ (∀ z, v = .str z → z.length ≤ sizeLine) ∧ ∀ H', Same H H' → Q (.bl (isNm v)) H'
end Toy

namespace Toy
open PySem PySem.Spec PyProof.Rows L2
theorem nd_t {p : Prop} [Decidable p] (h : (!decide p) = true) : ¬ p := by simpa using h
theorem nd_f {p : Prop} [Decidable p] (h : ¬ (!decide p) = true) : p := by simpa using h
def rTupOf (K : PySem.W.Frag) : List V → Hp → VK → Prop := fun xs H Q => ∃ p ys, xs = [.ref p] ∧ ((SqL K H p ys ∧ ∀ l, H l = none → Q (.ref l) (upd H l (.tup ys))) ∨ (SqT K H p ys ∧ Q (.ref p) H))
def rListOf (K : PySem.W.Frag) : List V → Hp → VK → Prop := fun xs H Q => ∃ p ys, xs = [.ref p] ∧ (SqL K H p ys ∨ SqT K H p ys) ∧ ∀ l, H l = none → Q (.ref l) (upd H l (.lst ys))
def rLenSeq (K : PySem.W.Frag) : List V → Hp → VK → Prop := fun xs H Q => ∃ p ys, xs = [.ref p] ∧ (SqL K H p ys ∨ SqT K H p ys) ∧ Q (.int ys.length) H
def spIsMoves : Sp := fun vs H Q _ => ∃ (v : V) (rows : List (List Int)) (n top : Int), vs = [v] ∧ TupT IntT H v rows ∧ Square n top rows ∧ 1 ≤ n ∧ n ≤ 6 ∧ top ≤ 9 ∧ ∀ H', Same H H' → Q (.bl true) H'
def spIsPrices : Sp := fun vs H Q _ => ∃ (v : V) (row : List (Option Int)) (n top : Int), vs = [v, .int n] ∧ OptT H v row ∧ Prices n top row ∧ n ≤ 6 ∧ top ≤ 9 ∧ ∀ H', Same H H' → Q (.bl true) H'
def spIsRequests : Sp := fun vs H Q _ => ∃ (d : Addr) (kvs : List (Key × V)) (rs : List (Str × List (Option Int))) (n top : Int), vs = [.ref d, .int n] ∧ H d = some (.dK kvs) ∧ DctOf OptT H kvs rs ∧ (rs.map (·.1)).Nodup ∧ 1 ≤ rs.length ∧ rs.length ≤ 5 ∧ (∀ q ∈ rs, Prices n top q.2 ∧ Name 8 q.1) ∧ n ≤ 6 ∧ top ≤ 9 ∧ ∀ H', Same H H' → Q (.bl true) H'
theorem ty_tup {H : Hp} {a : Addr} {xs : List V} (h : H a = some (.tup xs)) : tyN H (.ref a) = some "tuple" := by unfold tyN; simp only [h]
theorem ty_dK {H : Hp} {a : Addr} {xs : List (Key × V)} (h : H a = some (.dK xs)) : tyN H (.ref a) = some "dict" := by unfold tyN; simp only [h]
theorem rep_snoc (n : Nat) : (List.replicate n true).map V.bl ++ [V.bl true] = (List.replicate (n + 1) true).map V.bl := by
  rw [List.replicate_succ', List.map_append]; rfl
theorem rep_all (n : Nat) : (List.replicate n true).all id = true := by
  rw [List.all_eq_true]; intro x hx; rw [List.eq_of_mem_replicate hx]; rfl
theorem map_at {α : Type} {f : α → V} {xs : List α} {i : Nat} {x : V} (h : (xs.map f)[i]? = some x) : ∃ y, xs[i]? = some y ∧ x = f y := by
  rw [List.getElem?_map] at h
  cases e : xs[i]? with
  | none => rw [e] at h; cases h
  | some y => rw [e] at h; exact ⟨y, rfl, (Option.some.inj h).symm⟩
theorem same_upd {H H' : Hp} {D : Addr} {o : HO} (k : Same H H') (n : H D = none) : Same H (upd H' D o) := fun b u e => by
  rw [upd_ne (ne_of_none e n)]; exact k b u e
theorem tup_isTup {H : Hp} {a : Addr} {xs : List V} {m : Int} (h : H a = some (.tup xs)) (e : (xs.length : Int) = m) : isTup H m (.ref a) = true := by
  unfold isTup; simp only [h]; exact decide_eq_true e
theorem below_int {i m : Int} (h : 0 ≤ i) (h2 : i < m) : isBelow m (.int i) = true := decide_eq_true ⟨h, h2⟩
theorem nm_of {z : Str} (h : Name 8 z) : isNm (.str z) = true := decide_eq_true ⟨h.lo, by have := h.hi; omega, h.low.c⟩
theorem small_pt {α : Type} {xs : List α} {n : Int} (h : (xs.length : Int) = n) (h2 : n ≤ 100) : xs.length < sizeLine := small1000 (by omega)
end Toy

/-! least ways in a matrix of prices: plain mathematics -/
namespace Toy
/-- ways are told backwards: the head is the end, the last one the start -/
def rc (R : Nat → Nat → Int) : List Nat → Int
  | [] => 0
  | [_] => 0
  | j :: p :: t => R p j + rc R (p :: t)
structure Way (n i j : Nat) (l : List Nat) : Prop where
  hd : l.head? = some j
  la : l.getLast? = some i
  lt : ∀ x ∈ l, x < n
structure Least (n : Nat) (R M : Nat → Nat → Int) : Prop where
  has : ∀ i j, i < n → j < n → ∃ l, Way n i j l ∧ rc R l = M i j
  le : ∀ i j l, i < n → j < n → Way n i j l → M i j ≤ rc R l
theorem Least.uniq {n : Nat} {R M M' : Nat → Nat → Int} (a : Least n R M) (b : Least n R M') {i j : Nat} (hi : i < n) (hj : j < n) : M i j = M' i j := by
  obtain ⟨l, w, e⟩ := a.has i j hi hj
  obtain ⟨l', w', e'⟩ := b.has i j hi hj
  have h1 := a.le i j l' hi hj w'
  have h2 := b.le i j l hi hj w
  omega
theorem rc_app (R : Nat → Nat → Int) (x : Nat) (c : List Nat) : ∀ a : List Nat, rc R (a ++ x :: c) = rc R (a ++ [x]) + rc R (x :: c)
  | [] => by simp [rc]
  | [y] => by simp [rc]
  | y :: z :: a => by
    have ih := rc_app R x c (z :: a)
    simp only [List.cons_append, rc] at ih ⊢
    omega
theorem rc_nn {R : Nat → Nat → Int} {n : Nat} (h : ∀ i j, i < n → j < n → 0 ≤ R i j) : ∀ l : List Nat, (∀ x ∈ l, x < n) → 0 ≤ rc R l
  | [], _ => Int.le_refl _
  | [_], _ => Int.le_refl _
  | j :: p :: t, hl => by
    have h1 := rc_nn h (p :: t) (fun x hx => hl x (List.mem_cons_of_mem _ hx))
    have h2 := h p j (hl p (by simp)) (hl j (by simp))
    simp only [rc]
    omega
/-! the triangle -/
structure Tri (n : Nat) (M : Nat → Nat → Int) (m : Nat) : Prop where
  z : ∀ i, i < n → M i i = 0
  nn : ∀ i j, i < n → j < n → 0 ≤ M i j
  tri : ∀ i j k, i < n → j < n → k < m → M i j ≤ M i k + M k j
def ph (M : Nat → Nat → Int) (m : Nat) : Nat → Nat → Int := fun i j => if M i m + M m j < M i j then M i m + M m j else M i j
theorem ph_le {M : Nat → Nat → Int} {m i j : Nat} : ph M m i j ≤ M i j ∧ ph M m i j ≤ M i m + M m j ∧ (ph M m i j = M i j ∨ ph M m i j = M i m + M m j) := by
  unfold ph; split <;> omega
theorem Tri.ph {n m : Nat} {M : Nat → Nat → Int} (t : Tri n M m) (hm : m < n) : Tri n (ph M m) (m + 1) := by
  refine ⟨fun i hi => ?_, fun i j hi hj => ?_, fun i j k hi hj hk => ?_⟩
  · have h := @ph_le M m i i
    have h0 := t.z i hi
    have h1 := t.nn i m hi hm
    have h2 := t.nn m i hm hi
    omega
  · have h := @ph_le M m i j
    have h0 := t.nn i j hi hj
    have h1 := t.nn i m hi hm
    have h2 := t.nn m j hm hj
    omega
  · have hij := @ph_le M m i j
    have hik := @ph_le M m i k
    have hkj := @ph_le M m k j
    have hz := t.z m hm
    have n1 := t.nn i m hi hm
    have n2 := t.nn m j hm hj
    by_cases e : k = m
    · subst e
      omega
    · have hk' : k < m := by omega
      have t1 := t.tri i j k hi hj hk'
      have t2 := t.tri m j k hm hj hk'
      have t3 := t.tri i m k hi hm hk'
      have t4 := t.tri m m k hm hm hk'
      omega
structure Snd (n : Nat) (R M : Nat → Nat → Int) : Prop where
  has : ∀ i j, i < n → j < n → ∃ l, Way n i j l ∧ rc R l = M i j
theorem way_cat {n i m j : Nat} {a b : List Nat} {R : Nat → Nat → Int} (w : Way n i m a) (u : Way n m j b) : ∃ l, Way n i j l ∧ rc R l = rc R a + rc R b := by
  obtain ⟨a', rfl⟩ : ∃ a', a = m :: a' := by
    cases a with
    | nil => cases w.hd
    | cons x t => have := w.hd; simp at this; subst this; exact ⟨t, rfl⟩
  obtain ⟨b', rfl⟩ : ∃ b', b = b' ++ [m] := by
    have hb := u.la
    exact ⟨b.dropLast, by
      have hne : b ≠ [] := by rintro rfl; cases hb
      have := List.dropLast_concat_getLast hne
      rw [List.getLast?_eq_some_getLast hne] at hb
      rw [← Option.some.inj hb]
      exact this.symm⟩
  refine ⟨b' ++ m :: a', ⟨?_, ?_, ?_⟩, ?_⟩
  · have := u.hd
    cases b' with
    | nil => simpa using this
    | cons x t => simpa using this
  · rw [List.getLast?_append]
    have := w.la
    rw [this]; rfl
  · intro x hx
    rcases List.mem_append.mp hx with q | q
    · exact u.lt x (List.mem_append.mpr (.inl q))
    · exact w.lt x q
  · rw [rc_app]; omega
theorem Snd.ph {n m : Nat} {R M : Nat → Nat → Int} (s : Snd n R M) (hm : m < n) : Snd n R (ph M m) := by
  refine ⟨fun i j hi hj => ?_⟩
  rcases (@ph_le M m i j).2.2 with e | e
  · rw [e]; exact s.has i j hi hj
  · rw [e]
    obtain ⟨a, w, ea⟩ := s.has i m hi hm
    obtain ⟨b, u, eb⟩ := s.has m j hm hj
    obtain ⟨l, wl, el⟩ := way_cat (R := R) w u
    exact ⟨l, wl, by omega⟩
theorem Least.of {n : Nat} {R M : Nat → Nat → Int} (t : Tri n M n) (s : Snd n R M) (h : ∀ i j, i < n → j < n → M i j ≤ R i j) : Least n R M := by
  refine ⟨s.has, ?_⟩
  intro i j l hi hj w
  have key : ∀ l : List Nat, ∀ j, Way n i j l → M i j ≤ rc R l := by
    intro l
    induction l with
    | nil => intro j w; cases w.hd
    | cons x t' ih =>
      intro j w
      have hx : x = j := by have := w.hd; simpa using this
      subst hx
      cases t' with
      | nil =>
        have : x = i := by have := w.la; simpa using this
        subst this
        rw [t.z x hi]
        exact Int.le_refl _
      | cons p t'' =>
        have hp := w.lt p (by simp)
        have hx := w.lt x (by simp)
        have w2 : Way n i p (p :: t'') := ⟨rfl, by have := w.la; rw [List.getLast?_cons_cons] at this; exact this, fun y hy => w.lt y (List.mem_cons_of_mem _ hy)⟩
        have h1 := ih p w2
        have h2 := t.tri i x p hi hx hp
        have h3 := h p x hp hx
        simp only [rc]
        omega
  exact key l j w
/-! short ways do -/
theorem pigeon : ∀ (n : Nat) (l : List Nat), (∀ x ∈ l, x < n) → l.Nodup → l.length ≤ n
  | 0, l, h, _ => by
    cases l with
    | nil => exact Nat.le_refl _
    | cons x t => exact absurd (h x (by simp)) (by omega)
  | n + 1, l, h, nd => by
    have h1 : (l.erase n).length ≤ n := pigeon n (l.erase n) (fun x hx => by
      have hx' := (List.Nodup.mem_erase_iff nd).mp hx
      have := h x hx'.2
      have := hx'.1
      omega) (nd.erase n)
    by_cases e : n ∈ l
    · have := List.length_erase_of_mem e
      have := List.length_pos_of_mem e
      omega
    · rw [List.erase_of_not_mem e] at h1
      omega
theorem dup : ∀ l : List Nat, ¬ l.Nodup → ∃ a x b c, l = a ++ x :: (b ++ x :: c)
  | [], h => absurd List.nodup_nil h
  | x :: t, h => by
    by_cases e : x ∈ t
    · obtain ⟨b, c, rfl⟩ := List.append_of_mem e
      exact ⟨[], x, b, c, rfl⟩
    · have : ¬ t.Nodup := fun q => h (List.nodup_cons.mpr ⟨e, q⟩)
      obtain ⟨a, y, b, c, rfl⟩ := dup t this
      exact ⟨x :: a, y, b, c, rfl⟩
theorem short {n : Nat} {R : Nat → Nat → Int} (h : ∀ i j, i < n → j < n → 0 ≤ R i j) {i j : Nat} : ∀ (k : Nat) (l : List Nat), l.length ≤ k → Way n i j l → ∃ l', Way n i j l' ∧ l'.length ≤ n ∧ rc R l' ≤ rc R l
  | 0, l, hk, w => by
    cases l with
    | nil => cases w.hd
    | cons x t => simp at hk
  | k + 1, l, hk, w => by
    by_cases hn : l.length ≤ n
    · exact ⟨l, w, hn, Int.le_refl _⟩
    · have hd : ¬ l.Nodup := fun q => hn (pigeon n l w.lt q)
      obtain ⟨a, x, b, c, rfl⟩ := dup l hd
      have w' : Way n i j (a ++ x :: c) := by
        refine ⟨?_, ?_, ?_⟩
        · have := w.hd
          cases a <;> simpa using this
        · have hl := w.la
          rw [List.getLast?_append] at hl ⊢
          have e : (x :: (b ++ x :: c)).getLast? = (x :: c).getLast? := by
            rw [show x :: (b ++ x :: c) = (x :: b) ++ x :: c from rfl, List.getLast?_append]
            cases hq : (x :: c).getLast? with
            | none => simp at hq
            | some y => rfl
          rw [e] at hl; exact hl
        · intro y hy
          refine w.lt y ?_
          simp only [List.mem_append, List.mem_cons] at hy ⊢
          rcases hy with q | q | q
          · exact .inl q
          · exact .inr (.inl q)
          · exact .inr (.inr (.inr (.inr q)))
      have hlen : (a ++ x :: c).length ≤ k := by
        simp only [List.length_append, List.length_cons] at hk ⊢
        omega
      obtain ⟨l', wl, el, rl⟩ := short h k _ hlen w'
      refine ⟨l', wl, el, Int.le_trans rl ?_⟩
      have e1 := rc_app R x c a
      have e2 := rc_app R x (b ++ x :: c) a
      have e3 := rc_app R x c (x :: b)
      rw [show (x :: b) ++ x :: c = x :: (b ++ x :: c) from rfl] at e3
      have e4 : 0 ≤ rc R ((x :: b) ++ [x]) := rc_nn h _ fun y hy => w.lt y (by
        simp only [List.mem_append, List.mem_cons, List.not_mem_nil, or_false] at hy ⊢
        rcases hy with (q | q) | q
        · exact .inr (.inl q)
        · exact .inr (.inr (.inl q))
        · exact .inr (.inl q))
      omega
/-- products with R, again and again -/
structure Bound (n k : Nat) (R L : Nat → Nat → Int) : Prop where
  b : ∀ i j l, i < n → j < n → Way n i j l → l.length ≤ k → L i j ≤ rc R l
theorem Least.prod {n k : Nat} {R L : Nat → Nat → Int} (h : ∀ i j, i < n → j < n → 0 ≤ R i j) (s : Snd n R L) (b : Bound n k R L) (hk : n ≤ k) : Least n R L := by
  refine ⟨s.has, fun i j l hi hj w => ?_⟩
  obtain ⟨l', w', e, r⟩ := short h l.length l (Nat.le_refl _) w
  exact Int.le_trans (b.b i j l' hi hj w' (by omega)) r
theorem Bound.step {n k : Nat} {R L L' : Nat → Nat → Int} (b : Bound n k R L) (z : ∀ i, i < n → R i i = 0) (hk : 1 ≤ k) (h : ∀ i j c, i < n → j < n → c < n → L' i j ≤ L i c + R c j) : Bound n (k + 1) R L' := by
  refine ⟨fun i j l hi hj w hl => ?_⟩
  cases l with
  | nil => cases w.hd
  | cons x t =>
    have hx : x = j := by have := w.hd; simpa using this
    subst hx
    cases t with
    | nil =>
      have h1 := h i x x hi hj hj
      have h2 := b.b i x [x] hi hj w (by simpa using hk)
      rw [z x hj] at h1
      simp only [rc] at h2 ⊢
      omega
    | cons p t =>
      have hp := w.lt p (by simp)
      have w2 : Way n i p (p :: t) := ⟨rfl, by have := w.la; rw [List.getLast?_cons_cons] at this; exact this, fun y hy => w.lt y (List.mem_cons_of_mem _ hy)⟩
      have h1 := h i x p hi hj hp
      have h2 := b.b i p (p :: t) hi hp w2 (by simp only [List.length_cons] at hl ⊢; omega)
      simp only [rc]
      omega
theorem Bound.two {n : Nat} {R : Nat → Nat → Int} (z : ∀ i, i < n → R i i = 0) : Bound n 2 R R := by
  refine ⟨fun i j l hi hj w hl => ?_⟩
  match l, w, hl with
  | [], w, _ => cases w.hd
  | [x], w, _ =>
    have h1 : x = j := by have := w.hd; simpa using this
    have h2 : x = i := by have := w.la; simpa using this
    subst h1; subst h2
    rw [z x hi]; exact Int.le_refl _
  | [x, y], w, _ =>
    have h1 : x = j := by have := w.hd; simpa using this
    have h2 : y = i := by have := w.la; simpa using this
    subst h1; subst h2
    simp only [rc]; exact Int.le_of_eq (by omega)
  | _ :: _ :: _ :: _, _, hl => simp at hl
theorem Snd.self {n : Nat} {R : Nat → Nat → Int} : Snd n R R :=
  ⟨fun i j hi hj => ⟨[j, i], ⟨rfl, rfl, by intro x hx; simp at hx; rcases hx with rfl | rfl <;> assumption⟩, by simp [rc]⟩⟩
theorem Snd.step {n : Nat} {R L L' : Nat → Nat → Int} (s : Snd n R L) (h : ∀ i j, i < n → j < n → ∃ c, c < n ∧ L' i j = L i c + R c j) : Snd n R L' := by
  refine ⟨fun i j hi hj => ?_⟩
  obtain ⟨c, hc, e⟩ := h i j hi hj
  obtain ⟨a, w, ea⟩ := s.has i c hi hc
  obtain ⟨b, u, eb⟩ := (Snd.self (R := R)).has c j hc hj
  obtain ⟨l, wl, el⟩ := way_cat (R := R) w u
  exact ⟨l, wl, by omega⟩
end Toy

namespace Toy
open PySem PySem.Spec PyProof.Rows L2
def mat (rows : List (List Int)) (i j : Nat) : Int := (rows.getD i []).getD j 0
def rowV (n : Nat) (f : Nat → Int) : List V := (List.range n).map fun j => V.int (f j)
theorem rowV_len (n : Nat) (f : Nat → Int) : (rowV n f).length = n := by unfold rowV; rw [List.length_map, List.length_range]
theorem rowV_at {n : Nat} {f : Nat → Int} {j : Nat} (h : j < n) : (rowV n f)[j]? = some (.int (f j)) := by
  unfold rowV; rw [List.getElem?_map, List.getElem?_range h]; rfl
theorem rowV_set {n : Nat} {f : Nat → Int} {e : Nat} {v : Int} : (rowV n f).set e (.int v) = rowV n fun j => if j = e then v else f j := by
  apply List.ext_getElem?
  intro j
  rw [List.getElem?_set]
  by_cases hj : j < n
  · rw [rowV_at hj, rowV_at hj, rowV_len]
    by_cases he : e = j
    · subst he; simp [hj]
    · have he' : ¬ j = e := fun q => he q.symm
      simp [he, he']
  · have h1 : (rowV n f)[j]? = none := List.getElem?_eq_none (by rw [rowV_len]; omega)
    have h2 : (rowV n fun j => if j = e then v else f j)[j]? = none := List.getElem?_eq_none (by rw [rowV_len]; omega)
    rw [h1, h2, rowV_len]
    by_cases he : e = j
    · subst he; simp [hj]
    · simp [he]
theorem rowV_of {n : Nat} {r : List Int} (h : r.length = n) : r.map V.int = rowV n fun j => r.getD j 0 := by
  apply List.ext_getElem?
  intro j
  by_cases hj : j < n
  · rw [rowV_at hj, List.getElem?_map, List.getElem?_eq_getElem (by omega)]
    rw [List.getD_eq_getElem?_getD, List.getElem?_eq_getElem (by omega)]
    rfl
  · rw [List.getElem?_eq_none (l := r.map V.int) (by rw [List.length_map]; omega), List.getElem?_eq_none (l := rowV n _) (by rw [rowV_len]; omega)]
theorem rowV_ints (n : Nat) (f : Nat → Int) : rowV n f = ((List.range n).map f).map V.int := by
  unfold rowV; rw [List.map_map]; rfl
/-- a matrix that is written: a list of lists -/
structure MatAt (H : Hp) (w : Addr) (as : List Addr) (n : Nat) (M : Nat → Nat → Int) : Prop where
  ws : H w = some (.lst (as.map V.ref))
  len : as.length = n
  nd : as.Nodup
  nw : w ∉ as
  row : ∀ (i : Nat) a, as[i]? = some a → H a = some (.lst (rowV n (M i)))
theorem MatAt.ext {H : Hp} {w : Addr} {as : List Addr} {n : Nat} {M M' : Nat → Nat → Int} (m : MatAt H w as n M) (h : ∀ i j, i < n → j < n → M i j = M' i j) : MatAt H w as n M' :=
  ⟨m.ws, m.len, m.nd, m.nw, fun i a e => by
    have hi : i < n := by rw [← m.len]; exact (List.getElem?_eq_some_iff.mp e).1
    rw [m.row i a e]
    congr 2
    unfold rowV
    apply List.map_congr_left
    intro j hj
    rw [h i j hi (List.mem_range.mp hj)]⟩
theorem MatAt.set {H : Hp} {w : Addr} {as : List Addr} {n : Nat} {M : Nat → Nat → Int} (m : MatAt H w as n M) {s e : Nat} {a : Addr} {v : Int} (hs : as[s]? = some a) :
    MatAt (upd H a (.lst (rowV n fun j => if j = e then v else M s j))) w as n (fun i j => if i = s ∧ j = e then v else M i j) := by
  have haw : w ≠ a := fun q => m.nw (by rw [q]; exact List.mem_of_getElem? hs)
  refine ⟨(upd_ne haw).trans m.ws, m.len, m.nd, m.nw, fun i b hb => ?_⟩
  by_cases hi : i = s
  · subst hi
    rw [hs] at hb
    obtain rfl := Option.some.inj hb
    rw [upd_same]
    simp
  · have hab : b ≠ a := by
      intro q
      subst q
      exact hi (nd_ix m.nd hb hs)
    rw [upd_ne hab, m.row i b hb]
    simp [hi]
structure Ways (n : Int) (rows ws : List (List Int)) : Prop where
  len : (ws.length : Int) = n
  row : ∀ r ∈ ws, (r.length : Int) = n
  least : Least n.toNat (mat rows) (mat ws)
def spLeastWays : Sp := fun vs H Q _ => ∃ (v : V) (rows : List (List Int)) (n top : Int), vs = [v] ∧ TupT IntT H v rows ∧ Square n top rows ∧ 1 ≤ n ∧ n ≤ 100 ∧
  ∀ v' ws H', Same H H' → TupT IntT H' v' ws → Ways n rows ws → Q v' H'
theorem mat_at {rows : List (List Int)} {i : Nat} {r : List Int} (h : rows[i]? = some r) (j : Nat) : mat rows i j = r.getD j 0 := by
  unfold mat
  have e : rows.getD i [] = r := by rw [List.getD_eq_getElem?_getD, h]; rfl
  rw [e]
theorem Square.nn {n top : Int} {rows : List (List Int)} (S : Square n top rows) : ∀ i j, i < n.toNat → j < n.toNat → 0 ≤ mat rows i j := by
  intro i j hi hj
  have hl := S.len
  have hr : rows[i]? = some rows[i] := List.getElem?_eq_getElem (by omega)
  rw [mat_at hr]
  have hm := S.row rows[i] (List.mem_of_getElem? hr)
  rw [List.getD_eq_getElem?_getD, List.getElem?_eq_getElem (by omega)]
  exact (hm.2 _ (List.getElem_mem _)).1
theorem Square.z {n top : Int} {rows : List (List Int)} (S : Square n top rows) : ∀ i, i < n.toNat → mat rows i i = 0 := by
  intro i hi
  have hl := S.len
  have hr : rows[i]? = some rows[i] := List.getElem?_eq_getElem (by omega)
  rw [mat_at hr, List.getD_eq_getElem?_getD, S.diag i _ hr]
  rfl
end Toy

namespace Toy
open PySem PySem.Spec PyProof.Rows L2
/-- a System's attributes -/
def sfs (mv : V) (n : Int) (nv wv : V) (q : Addr) : List (Str × V) := putF "_requests" (.ref q) (putF "ways" wv (putF "names" nv (putF "posts" (.int n) (putF "moves" mv []))))
section
variable {mv nv wv : V} {n : Int} {q : Addr}
theorem sfs_requests : (sfs mv n nv wv q).lookup ("_requests" : Str) = some (.ref q) := by unfold sfs; rw [lookup_putF, if_pos rfl]
theorem sfs_ways : (sfs mv n nv wv q).lookup ("ways" : Str) = some wv := by unfold sfs; rw [lookup_putF, if_neg (by decide +kernel), lookup_putF, if_pos rfl]
theorem sfs_names : (sfs mv n nv wv q).lookup ("names" : Str) = some nv := by unfold sfs; rw [lookup_putF, if_neg (by decide +kernel), lookup_putF, if_neg (by decide +kernel), lookup_putF, if_pos rfl]
theorem sfs_posts : (sfs mv n nv wv q).lookup ("posts" : Str) = some (.int n) := by unfold sfs; rw [lookup_putF, if_neg (by decide +kernel), lookup_putF, if_neg (by decide +kernel), lookup_putF, if_neg (by decide +kernel), lookup_putF, if_pos rfl]
theorem sfs_moves : (sfs mv n nv wv q).lookup ("moves" : Str) = some mv := by unfold sfs; rw [lookup_putF, if_neg (by decide +kernel), lookup_putF, if_neg (by decide +kernel), lookup_putF, if_neg (by decide +kernel), lookup_putF, if_neg (by decide +kernel), lookup_putF, if_pos rfl]
theorem sfs_no {m : Str} (h1 : ¬ m = "_requests") (h2 : ¬ m = "ways") (h3 : ¬ m = "names") (h4 : ¬ m = "posts") (h5 : ¬ m = "moves") : (sfs mv n nv wv q).lookup m = none := by
  unfold sfs; rw [lookup_putF, if_neg h1, lookup_putF, if_neg h2, lookup_putF, if_neg h3, lookup_putF, if_neg h4, lookup_putF, if_neg h5]; rfl
end
theorem putF_len (f : Str) (v : V) : ∀ fs : List (Str × V), (putF f v fs).length ≤ fs.length + 1
  | [] => Nat.le_refl _
  | (g, u) :: r => by
    have ih := putF_len f v r
    unfold putF
    split
    · simp
    · simp only [List.length_cons]; omega
theorem dct_keys {α : Type} {R : Hp → V → α → Prop} {H : Hp} : ∀ {kvs : List (Key × V)} {rs : List (Str × α)}, DctOf R H kvs rs → kvs.map (·.1) = (rs.map (·.1)).map Sum.inr
  | _, _, .nil => rfl
  | kv :: kvs, p :: rs, .cons r t => by
    have ih := dct_keys t
    simp only [List.map_cons] at ih ⊢
    rw [ih, r.1]
def pick {α : Type} (rs : List (Str × α)) (z : Str) (x : α) : Prop := (z, x) ∈ rs
/-- the pairs in another order of their keys -/
theorem reorder {α : Type} [Inhabited α] : ∀ {rs : List (Str × α)} {ys : List Str}, (rs.map (·.1)).Nodup → ys.Perm (rs.map (·.1)) → ∃ rs' : List (Str × α), rs'.map (·.1) = ys ∧ rs'.Perm rs := by
  intro rs ys nd hp
  let f : Str → Str × α := fun z => (z, ((rs.find? fun p => decide (p.1 = z)).map (·.2)).getD default)
  have hf : ∀ (l : List (Str × α)), (∀ p ∈ l, p ∈ rs) → (l.map (·.1)).map f = l := by
    intro l hl
    rw [List.map_map]
    conv => rhs; rw [← List.map_id l]
    apply List.map_congr_left
    intro p hpm
    have hpr := hl p hpm
    show f p.1 = p
    have key : ∀ (l : List (Str × α)), (l.map (·.1)).Nodup → p ∈ l → (l.find? fun q => decide (q.1 = p.1)) = some p := by
      intro l
      induction l with
      | nil => intro _ h; cases h
      | cons q t ih =>
        intro nd hm
        rw [List.map_cons] at nd
        obtain ⟨n1, n2⟩ := List.nodup_cons.mp nd
        rcases List.mem_cons.mp hm with e | hm
        · subst e; rw [List.find?_cons, decide_eq_true rfl]
        · have : ¬ q.1 = p.1 := fun e => n1 (by rw [e]; exact List.mem_map.mpr ⟨p, hm, rfl⟩)
          rw [List.find?_cons, decide_eq_false this]
          exact ih n2 hm
    show (p.1, ((rs.find? fun q => decide (q.1 = p.1)).map (·.2)).getD default) = p
    rw [key rs nd hpr]
    rfl
  refine ⟨ys.map f, ?_, ?_⟩
  · rw [List.map_map]
    conv => rhs; rw [← List.map_id ys]
    apply List.map_congr_left
    intro z _
    rfl
  · have h1 := hp.map f
    rw [hf rs fun p h => h] at h1
    exact h1
theorem keep4 {H : Hp} {p l t : Addr} {a b c d : HO} (nl : H l = none) (nt : H t = none) : Keep p H (upd (upd (upd (upd H p a) l b) t c) p d) := fun x o n e => by
  rw [upd_ne n, upd_ne (ne_of_none e nt), upd_ne (ne_of_none e nl), upd_ne n]; exact e
theorem take_nmem {α : Type} {xs : List α} (nd : xs.Nodup) {i : Nat} {x : α} (h : xs[i]? = some x) : ¬ x ∈ xs.take i := by
  intro m
  obtain ⟨j, hj, ej⟩ := List.getElem_of_mem m
  rw [List.getElem_take] at ej
  rw [List.length_take] at hj
  have h2 := (List.getElem?_eq_some_iff.mp h).2
  have := (List.getElem_inj nd).mp (ej.trans h2.symm)
  omega
theorem sortedS_perm_nd {ys zs : List Str} (h : ys.Perm zs) (nd : zs.Nodup) : ys.Nodup := h.nodup_iff.mpr nd
/-- what a System is made of -/
structure Sys where
  n : Int
  rows : List (List Int)
  ws : List (List Int)
  rs : List (Str × List (Option Int))
structure SysOk (S : Sys) : Prop where
  n1 : 1 ≤ S.n
  n6 : S.n ≤ 6
  sq : Square S.n 9 S.rows
  wy : Ways S.n S.rows S.ws
  nd : (S.rs.map (·.1)).Nodup
  srt : sortedS (S.rs.map (·.1)) = true
  r1 : 1 ≤ S.rs.length
  r5 : S.rs.length ≤ 5
  pr : ∀ q ∈ S.rs, Prices S.n 9 q.2 ∧ Name 8 q.1
structure SysAt (C : Addr) (H : Hp) (p : Addr) (S : Sys) : Prop where
  ex : ∃ (dx : Addr) (mv : V) (na : Addr) (wv : V) (q : Addr) (kvs : List (Key × V)), H p = some (.ins C dx (sfs mv S.n (.ref na) wv q)) ∧ TupT IntT H mv S.rows ∧ H na = some (.tup ((S.rs.map (·.1)).map V.str)) ∧ TupT IntT H wv S.ws ∧ H q = some (.dK kvs) ∧ DctOf OptT H kvs S.rs
theorem SysAt.same {C : Addr} {H H' : Hp} {p : Addr} {S : Sys} (A : SysAt C H p S) (k : Same H H') : SysAt C H' p S := by
  obtain ⟨dx, mv, na, wv, q, kvs, h1, h2, h3, h4, h5, h6⟩ := A.ex
  exact ⟨dx, mv, na, wv, q, kvs, k _ _ h1, TupT.firm IntT.firm H H' _ _ (same_tups k) h2, k _ _ h3, TupT.firm IntT.firm H H' _ _ (same_tups k) h4, k _ _ h5, h6.firm OptT.firm (same_tups k)⟩
def spSystem (C : Addr) : Sp := fun vs H Q _ => ∃ (p dx : Addr) (mv : V) (d : Addr) (rows : List (List Int)) (kvs : List (Key × V)) (rs : List (Str × List (Option Int))) (n : Int), vs = [.ref p, mv, .ref d] ∧ H p = some (.ins C dx []) ∧
  TupT IntT H mv rows ∧ Square n 9 rows ∧ 1 ≤ n ∧ n ≤ 6 ∧ H d = some (.dK kvs) ∧ DctOf OptT H kvs rs ∧ (rs.map (·.1)).Nodup ∧ 1 ≤ rs.length ∧ rs.length ≤ 5 ∧ (∀ q ∈ rs, Prices n 9 q.2 ∧ Name 8 q.1) ∧
  ∀ (S : Sys) (H' : Hp), SysOk S → S.n = n → S.rows = rows → S.rs.Perm rs → SysAt C H' p S → (∀ b o, b ≠ p → H b = some o → H' b = some o) → Q .non H'
end Toy

namespace Toy
open PySem PySem.Spec PyProof.Rows L2
/-! a comprehension within another one -/
def fake (fr : List Str) : Scope := { kind := .function, names := fr.map fun x => (x, NameKind.free), isGenerator := false, isCoroutine := false }
def AllF (sc : Scope) : List Str → Prop
  | [] => True
  | x :: t => (sc.names.lookup x = some .cell ∨ sc.names.lookup x = some .free) ∧ AllF sc t
theorem allF_mem {sc : Scope} {x : Str} : ∀ {fr : List Str}, AllF sc fr → x ∈ fr → sc.names.lookup x = some .cell ∨ sc.names.lookup x = some .free
  | y :: t, h, m => by
    rcases List.mem_cons.mp m with e | m
    · rw [e]; exact h.1
    · exact allF_mem h.2 m
theorem blkOk_fr {N : List Str} {sc scope : Scope} {own : List (Str × Nat)} (fr : List Str) (h : blkC N (fake fr) scope own = true) (hf : AllF sc fr) : BlkOk N sc scope own := by
  have b := blkOk_by h
  refine ⟨b.kind, b.uniq, b.ix, fun y hy e => ?_, b.own⟩
  refine allF_mem hf ?_
  have q : ∀ k, (fake fr).names.lookup y.1 = some k → y.1 ∈ fr := fun k q => by
    have m := PySem.mem_of_lookup q
    obtain ⟨x, hx, e⟩ := List.mem_map.mp m
    cases e
    exact hx
  rcases b.free y hy e with z | z
  · exact q _ z
  · exact q _ z
theorem tup_mul1 (l : Addr) (items : Array Value) (n : Nat) (dd : Option Addr) (sl : Array (Option Value)) (u : Tok) :
    Meets (Builtin.«tuple.__mul__» ⟨[.ref l, .int 1 u], []⟩) (fun _ R s => s.heap.get? l = some { cls := .type "tuple", dict := dd, data := .seq items n, slots := sl } ∧ R (.ok (.ret (Value.ref l))) s) :=
  .of_wp fun prog w A R s h => by
    obtain ⟨hp, g, d, tk, os⟩ := s
    obtain ⟨hl, h⟩ := h
    have f1 := AutoSeq1.idx_int
    have c0 : (decide ((1 : Int) < -(2 ^ 63)) || decide ((1 : Int) ≥ 2 ^ 63)) = false := by decide
    have c1 : (items.isEmpty || (1 : Int) == 1) = true := by simp
    wp_walk using AutoSeq1.wpAny_loadPart' hl
    exact ⟨_, rfl, h⟩
section
variable {X : Cx}
def rRep1 (K : PySem.W.Frag) : R2 := fun x y H Q => ∃ l xs, x = .ref l ∧ y = .int 1 ∧ SqT K H l xs ∧ Q (.ref l) H
theorem op_rep1 : OpR X (binaryOp .Mult) (rRep1 X.K) := by
  intro pins s σ H x y v u Q I rx ry h
  obtain ⟨l, xs, rfl, rfl, hT, q⟩ := h
  cases rx
  obtain ⟨t, rfl⟩ := ry
  obtain ⟨its, r, ⟨⟨cls, dd, data, sl⟩, ho, hc, n, hd⟩, hs⟩ := I.tuple hT
  simp only at hc hd
  subst hc hd
  exact wpAny_binaryOp_repeat_ref (T := "tuple") (U := "int") (by decide) ⟨_, ho, rfl⟩ (fun s' => typeIs_int s' 1 t) noFill_tuple_mul F.fills_int_mul F.slot_int_rmul repeat_tuple F.slot_int_index.lookup
    (call_meets F.slot_int_rmul (typeIs_int s 1 t) F.entry_int_rmul (F.args_int_rmul_2 _ _) (int_rmul_tuple 1 t l its.toArray n dd sl)
      ⟨ho, rfl, ⟨_, ho, rfl⟩, call_meets F.slot_tuple_mul ⟨_, ho, rfl⟩ F.entry_tuple_mul (F.args_tuple_mul_2 _ _) (tup_mul1 l its.toArray n dd sl t) ⟨ho, .ref l, H, I, rfl, q⟩⟩)
theorem pi_or {tg iter : Expr} {w1 w2 : TI} (h1 : PI X tg iter w1) (h2 : PI X tg iter w2) : PI X tg iter (fun σ H R => w1 σ H R ∨ w2 σ H R) := by
  refine ⟨fun pins s σ H R I q => ?_⟩
  rcases q with q | q
  · exact h1.run pins s σ H R I q
  · exact h2.run pins s σ H R I q
end
end Toy

namespace Toy
open PySem PySem.Spec PyProof.Rows L2
/-! least of a list -/
def minL : List Int → Int
  | [] => 0
  | x :: xs => xs.foldl (fun a y => if y < a then y else a) x
theorem fold_le (xs : List Int) : ∀ x : Int, xs.foldl (fun a y => if y < a then y else a) x ≤ x ∧ (∀ y ∈ xs, xs.foldl (fun a y => if y < a then y else a) x ≤ y) ∧ (xs.foldl (fun a y => if y < a then y else a) x = x ∨ xs.foldl (fun a y => if y < a then y else a) x ∈ xs) := by
  induction xs with
  | nil => intro x; exact ⟨Int.le_refl _, by simp, .inl rfl⟩
  | cons z t ih =>
    intro x
    rw [List.foldl_cons]
    obtain ⟨h1, h2, h3⟩ := ih (if z < x then z else x)
    have hz : (if z < x then z else x) ≤ z ∧ (if z < x then z else x) ≤ x := by split <;> omega
    refine ⟨by omega, fun y hy => ?_, ?_⟩
    · rcases List.mem_cons.mp hy with e | hy
      · subst e; omega
      · exact h2 y hy
    · rcases h3 with e | e
      · rw [e]
        split
        · exact .inr List.mem_cons_self
        · exact .inl rfl
      · exact .inr (List.mem_cons_of_mem _ e)
theorem minL_le {l : List Int} {y : Int} (h : y ∈ l) : minL l ≤ y := by
  cases l with
  | nil => cases h
  | cons x xs =>
    obtain ⟨h1, h2, h3⟩ := fold_le xs x
    rcases List.mem_cons.mp h with e | h
    · subst e; exact h1
    · exact h2 y h
theorem minL_mem {l : List Int} (h : l ≠ []) : minL l ∈ l := by
  cases l with
  | nil => exact absurd rfl h
  | cons x xs =>
    obtain ⟨h1, h2, h3⟩ := fold_le xs x
    rcases h3 with e | e
    · show xs.foldl _ x ∈ x :: xs
      rw [e]; exact List.mem_cons_self
    · exact List.mem_cons_of_mem _ e
theorem minL_eq {l : List Int} {m : Int} (h : m ∈ l) (h2 : ∀ y ∈ l, m ≤ y) : minL l = m := by
  have a := minL_le h
  have b := h2 _ (minL_mem (fun e => by rw [e] at h; cases h))
  omega
def chF (ws : List (List Int)) (row : List (Option Int)) (ah : List Int) (s p : Nat) : Option (Int × Int) := match row.getD p none with
  | some c => some (mat ws s p + c + ah.getD p 0, (p : Int))
  | none => none
theorem chF_none {ws : List (List Int)} {row : List (Option Int)} {ah : List Int} {s p : Nat} (h : row.getD p none = none) : chF ws row ah s p = none := by unfold chF; rw [h]
theorem chF_some {ws : List (List Int)} {row : List (Option Int)} {ah : List Int} {s p : Nat} {c : Int} (h : row.getD p none = some c) : chF ws row ah s p = some (mat ws s p + c + ah.getD p 0, (p : Int)) := by unfold chF; rw [h]
/-- where one can go, and what it costs with what is ahead -/
def chs (n : Nat) (ws : List (List Int)) (row : List (Option Int)) (ah : List Int) (s : Nat) : List (Int × Int) :=
  (List.range n).filterMap (chF ws row ah s)
def ceil (n : Nat) (ws : List (List Int)) (row : List (Option Int)) (ah : List Int) : List Int := (List.range n).map fun s => minL ((chs n ws row ah s).map (·.1))
def val (n : Nat) (ws : List (List Int)) : List (List (Option Int)) → List Int
  | [] => List.replicate n 0
  | r :: t => ceil n ws r (val n ws t)
theorem ceil_len {n : Nat} {ws : List (List Int)} {row : List (Option Int)} {ah : List Int} : (ceil n ws row ah).length = n := by unfold ceil; rw [List.length_map, List.length_range]
theorem val_len {n : Nat} {ws : List (List Int)} : ∀ t, (val n ws t).length = n
  | [] => List.length_replicate
  | _ :: _ => ceil_len
theorem chs_mem {n : Nat} {ws : List (List Int)} {row : List (Option Int)} {ah : List Int} {s : Nat} {q : Int × Int} : q ∈ chs n ws row ah s ↔ ∃ p c, p < n ∧ row.getD p none = some c ∧ q = (mat ws s p + c + ah.getD p 0, (p : Int)) := by
  unfold chs
  rw [List.mem_filterMap]
  constructor
  · rintro ⟨p, hp, e⟩
    cases hc : row.getD p none with
    | none => rw [chF_none hc] at e; cases e
    | some c => rw [chF_some hc] at e; exact ⟨p, c, List.mem_range.mp hp, hc, (Option.some.inj e).symm⟩
  · rintro ⟨p, c, hp, hc, e⟩
    exact ⟨p, List.mem_range.mpr hp, by rw [chF_some hc, e]⟩
theorem chs_ne {n : Int} {top : Int} {ws : List (List Int)} {row : List (Option Int)} {ah : List Int} {s : Nat} (h : Prices n top row) : chs n.toNat ws row ah s ≠ [] := by
  obtain ⟨x, hx⟩ := h.some
  obtain ⟨p, hp⟩ := List.mem_iff_getElem?.mp hx
  have hl := (List.getElem?_eq_some_iff.mp hp).1
  have := h.len
  refine List.ne_nil_of_mem (chs_mem.mpr ⟨p, x, by omega, ?_, rfl⟩)
  rw [List.getD_eq_getElem?_getD, hp]; rfl
theorem chs_none {n : Nat} {ws : List (List Int)} {row : List (Option Int)} {ah : List Int} {s : Nat} (h : row.getD n none = none) : chs (n + 1) ws row ah s = chs n ws row ah s := by
  unfold chs
  rw [List.range_succ, List.filterMap_append, List.filterMap_cons, chF_none h, List.filterMap_nil, List.append_nil]
theorem chs_some {n : Nat} {ws : List (List Int)} {row : List (Option Int)} {ah : List Int} {s : Nat} {c : Int} (h : row.getD n none = some c) : chs (n + 1) ws row ah s = chs n ws row ah s ++ [(mat ws s n + c + ah.getD n 0, (n : Int))] := by
  unfold chs
  rw [List.range_succ, List.filterMap_append, List.filterMap_cons, chF_some h, List.filterMap_nil]
theorem chs_len (n : Nat) (ws : List (List Int)) (row : List (Option Int)) (ah : List Int) (s : Nat) : (chs n ws row ah s).length ≤ n := by
  unfold chs
  exact Nat.le_trans (List.length_filterMap_le _ _) (Nat.le_of_eq List.length_range)
theorem getDat {α : Type} {xs : List α} {i : Nat} (d : α) (h : i < xs.length) : xs[i]? = some (xs.getD i d) := by
  rw [List.getD_eq_getElem?_getD, List.getElem?_eq_getElem h]; rfl
/-- a pair of two ints -/
def PrT (H : Hp) (v : V) (p : Int × Int) : Prop := IntT H v [p.1, p.2]
theorem PrT.firm : Firm PrT := fun H H' v p k h => IntT.firm H H' v _ k h
def pd (p : Int × Int) : PyData := .tuple [.int p.1, .int p.2]
theorem dp_pairs {K : PySem.W.Frag} {H : Hp} : ∀ {vs : List V} {ps : List (Int × Int)}, Paired (PrT H) vs ps → DpAll K H vs (ps.map pd)
  | _, _, .nil => .nil
  | _, _, .cons r t => by
    obtain ⟨a, rfl, ha⟩ := r
    exact .cons (.tup (SqT.of ha) (.cons (.int _) (.cons (.int _) .nil))) (dp_pairs t)
theorem alike_pairs (ps : List (Int × Int)) : PySem.W.AlikeAll (ps.map pd) := by
  refine ⟨fun x hx y hy => ?_, fun x hx => ?_⟩
  · obtain ⟨p, _, rfl⟩ := List.mem_map.mp hx
    obtain ⟨q, _, rfl⟩ := List.mem_map.mp hy
    simp [pd, PySem.W.alike, PySem.W.alikeAll]
  · obtain ⟨p, _, rfl⟩ := List.mem_map.mp hx
    intro h; cases h
theorem depth_pairs : ∀ ps : List (Int × Int), PyData.depthAll (ps.map pd) ≤ 60
  | [] => by simp [PyData.depthAll]
  | p :: ps => by
    have := depth_pairs ps
    simp only [List.map_cons, PyData.depthAll, pd, PyData.depth]
    omega
/-- less, for pairs -/
def ltP (p q : Int × Int) : Prop := p.1 < q.1 ∨ (p.1 = q.1 ∧ p.2 < q.2)
theorem minD_pairs (ps : List (Int × Int)) : ∀ p, ∃ q, PySem.W.minD (pd p) (ps.map pd) = pd q ∧ q ∈ p :: ps ∧ ∀ r ∈ p :: ps, q.1 ≤ r.1 := by
  induction ps with
  | nil => intro p; exact ⟨p, rfl, List.mem_cons_self, fun r hr => by rw [List.mem_singleton.mp hr]; exact Int.le_refl _⟩
  | cons z t ih =>
    intro p
    have e : PySem.W.minD (pd p) ((z :: t).map pd) = PySem.W.minD (if PySem.W.dataLt (pd z) (pd p) then pd z else pd p) (t.map pd) := rfl
    have el : PySem.W.dataLt (pd z) (pd p) = decide (z.1 < p.1 ∨ (z.1 = p.1 ∧ z.2 < p.2)) := PySem.W.dataLt_ii _ _ _ _
    rw [e, el]
    by_cases h : z.1 < p.1 ∨ (z.1 = p.1 ∧ z.2 < p.2)
    · rw [decide_eq_true h, if_pos rfl]
      obtain ⟨q, h1, h2, h3⟩ := ih z
      refine ⟨q, h1, List.mem_cons_of_mem _ h2, fun r hr => ?_⟩
      rcases List.mem_cons.mp hr with e | hr
      · subst e
        have := h3 z List.mem_cons_self
        omega
      · exact h3 r hr
    · rw [decide_eq_false h, if_neg (by simp)]
      obtain ⟨q, h1, h2, h3⟩ := ih p
      refine ⟨q, h1, ?_, fun r hr => ?_⟩
      · rcases List.mem_cons.mp h2 with e | h2
        · rw [e]; exact List.mem_cons_self
        · exact List.mem_cons_of_mem _ (List.mem_cons_of_mem _ h2)
      · rcases List.mem_cons.mp hr with e | hr
        · subst e; exact h3 _ List.mem_cons_self
        · rcases List.mem_cons.mp hr with e | hr
          · subst e
            have := h3 p List.mem_cons_self
            omega
          · exact h3 r (List.mem_cons_of_mem _ hr)
/-- the reading of min of such a list -/
theorem min_pairs {K : PySem.W.Frag} {H : Hp} {l : Addr} {us : List V} {ps : List (Int × Int)} {Q : VK} (hl : H l = some (.lst us)) (hp : Paired (PrT H) us ps) (hne : ps ≠ [])
    (h : ∀ v q, PrT H v q → q ∈ ps → q.1 = minL (ps.map (·.1)) → Q v H) : rMinD K [.ref l] H Q := by
  cases ps with
  | nil => exact absurd rfl hne
  | cons p ps =>
    refine ⟨l, us, pd p, ps.map pd, rfl, SqL.of hl, dp_pairs hp, alike_pairs (p :: ps), depth_pairs (p :: ps), fun i v hv hd => ?_⟩
    obtain ⟨q, e, hq, hmin⟩ := minD_pairs ps p
    rw [e] at hd
    obtain ⟨q', hq', hv'⟩ := prd_at1 hp hv
    have : ((p :: ps).map pd)[i]? = some (pd q) := hd
    rw [List.getElem?_map, hq'] at this
    have eq1 : pd q' = pd q := Option.some.inj this
    have eq2 : q' = q := by
      unfold pd at eq1
      injection eq1 with a
      injection a with b c
      injection b with b
      injection c with c _
      injection c with c
      exact Prod.ext b c
    subst eq2
    refine h v q' hv' hq (minL_eq (List.mem_map.mpr ⟨q', hq, rfl⟩) ?_).symm
    intro y hy
    obtain ⟨r, hr, rfl⟩ := List.mem_map.mp hy
    exact hmin r hr
/-! promises -/
def spPricesM (C : Addr) : Sp := fun vs H Q _ => ∃ (p : Addr) (S : Sys) (z : Str) (row : List (Option Int)), vs = [.ref p, .str z] ∧ SysOk S ∧ SysAt C H p S ∧ (z, row) ∈ S.rs ∧ ∀ v, OptT H v row → Q v H
def RowAt (H : Hp) (v : V) (zs : List Str) : Prop := ∃ a, v = .ref a ∧ (H a = some (.tup (zs.map V.str)) ∨ H a = some (.lst (zs.map V.str)))
def spCheckRow (C : Addr) : Sp := fun vs H Q _ => ∃ (p : Addr) (S : Sys) (v : V) (zs : List Str), vs = [.ref p, v] ∧ SysOk S ∧ SysAt C H p S ∧ RowAt H v zs ∧ (∀ z ∈ zs, z ∈ S.rs.map (·.1)) ∧ ∀ H', Same H H' → Q .non H'
def spChoices (C : Addr) : Sp := fun vs H Q _ => ∃ (p : Addr) (S : Sys) (z : Str) (row : List (Option Int)) (s : Nat) (v : V) (ah : List Int), vs = [.ref p, .int s, .str z, v] ∧ SysOk S ∧ SysAt C H p S ∧ (z, row) ∈ S.rs ∧ (s : Int) < S.n ∧ IntT H v ah ∧ (ah.length : Int) = S.n ∧
  ∀ l us H', Same H H' → H' l = some (.lst us) → Paired (PrT H') us (chs S.n.toNat S.ws row ah s) → Q (.ref l) H'
def spCeilings (C : Addr) : Sp := fun vs H Q _ => ∃ (p : Addr) (S : Sys) (z : Str) (row : List (Option Int)) (v : V) (ah : List Int), vs = [.ref p, .str z, v] ∧ SysOk S ∧ SysAt C H p S ∧ (z, row) ∈ S.rs ∧ IntT H v ah ∧ (ah.length : Int) = S.n ∧
  ∀ v' H', Same H H' → IntT H' v' (ceil S.n.toNat S.ws row ah) → Q v' H'
end Toy

namespace Toy
open PySem PySem.Spec PyProof.Rows L2
/-- a service of some rows: where one went, what it cost, where one stands -/
inductive Run (n : Nat) (ws : List (List Int)) : List (List (Option Int)) → List Nat → Int → Nat → Prop
  | nil : Run n ws [] [] 0 0
  | snoc {rs : List (List (Option Int))} {ps : List Nat} {c : Int} {a : Nat} {r : List (Option Int)} {p : Nat} {k : Int} : Run n ws rs ps c a → p < n → r.getD p none = some k → Run n ws (rs ++ [r]) (ps ++ [p]) (c + mat ws a p + k) p
theorem Run.lt {n : Nat} (hn : 0 < n) {ws : List (List Int)} {rs : List (List (Option Int))} {ps : List Nat} {c : Int} {a : Nat} (h : Run n ws rs ps c a) : a < n := by
  cases h with
  | nil => exact hn
  | snoc _ hp _ => exact hp
theorem Run.len {n : Nat} {ws : List (List Int)} {rs : List (List (Option Int))} {ps : List Nat} {c : Int} {a : Nat} (h : Run n ws rs ps c a) : ps.length = rs.length := by
  induction h with
  | nil => rfl
  | snoc _ _ _ ih => simp [ih]
theorem Run.fn {n : Nat} {ws : List (List Int)} {rs : List (List (Option Int))} {ps : List Nat} {c : Int} {a : Nat} (h : Run n ws rs ps c a) : ∀ {c' : Int} {a' : Nat}, Run n ws rs ps c' a' → c = c' ∧ a = a' := by
  induction h with
  | nil =>
    intro c' a' h'
    generalize e1 : ([] : List (List (Option Int))) = rs at h'
    generalize e2 : ([] : List Nat) = ps at h'
    cases h' with
    | nil => exact ⟨rfl, rfl⟩
    | snoc _ _ _ => simp at e1
  | @snoc rs ps c a r p k _ hp hk ih =>
    intro c' a' h'
    generalize e1 : rs ++ [r] = rs' at h'
    generalize e2 : ps ++ [p] = ps' at h'
    cases h' with
    | nil => simp at e1
    | @snoc rs₂ ps₂ c₂ a₂ r₂ p₂ k₂ h2 hp2 hk2 =>
      obtain ⟨q1, q2⟩ := List.append_inj' e1 rfl
      obtain ⟨q3, q4⟩ := List.append_inj' e2 rfl
      subst q1; subst q3
      obtain rfl : r = r₂ := by simpa using q2
      obtain rfl : p = a' := by simpa using q4
      obtain ⟨rfl, rfl⟩ := ih h2
      rw [hk] at hk2
      obtain rfl := Option.some.inj hk2
      exact ⟨rfl, rfl⟩
theorem Run.congr {n : Nat} (hn : 0 < n) {ws ws' : List (List Int)} (e : ∀ i j, i < n → j < n → mat ws i j = mat ws' i j) {rs : List (List (Option Int))} {ps : List Nat} {c : Int} {a : Nat} (h : Run n ws rs ps c a) : Run n ws' rs ps c a := by
  induction h with
  | nil => exact .nil
  | snoc h0 hp hk ih =>
    rw [e _ _ (h0.lt hn) hp]
    exact .snoc ih hp hk
/-- the last step -/
theorem Run.inv {n : Nat} {ws : List (List Int)} {rs : List (List (Option Int))} {r : List (Option Int)} {ps' : List Nat} {c : Int} {a : Nat} (h : Run n ws (rs ++ [r]) ps' c a) : ∃ ps c0 a0 k, ps' = ps ++ [a] ∧ Run n ws rs ps c0 a0 ∧ a < n ∧ r.getD a none = some k ∧ c = c0 + mat ws a0 a + k := by
  generalize e1 : rs ++ [r] = rs' at h
  cases h with
  | nil => simp at e1
  | @snoc rs₂ ps₂ c₂ a₂ r₂ p₂ k₂ h2 hp2 hk2 =>
    obtain ⟨q1, q2⟩ := List.append_inj' e1 rfl
    subst q1
    obtain rfl : r = r₂ := by simpa using q2
    exact ⟨ps₂, c₂, a₂, k₂, rfl, h2, hp2, hk2, rfl⟩
theorem Run.take {n : Nat} {ws : List (List Int)} {rs : List (List (Option Int))} {ps : List Nat} {c : Int} {a : Nat} (h : Run n ws rs ps c a) : ∀ k, ∃ c' a', Run n ws (rs.take k) (ps.take k) c' a' := by
  induction h with
  | nil => intro k; exact ⟨0, 0, by simpa using Run.nil⟩
  | @snoc rs ps c a r p k' h0 hp hk ih =>
    intro k
    have hl := h0.len
    by_cases hk2 : k ≤ rs.length
    · rw [List.take_append_of_le_length hk2, List.take_append_of_le_length (by omega)]
      exact ih k
    · rw [List.take_of_length_le (by simp; omega), List.take_of_length_le (by simp; omega)]
      exact ⟨_, _, .snoc h0 hp hk⟩
theorem ceil_at {n : Nat} {ws : List (List Int)} {row : List (Option Int)} {ah : List Int} {s : Nat} (h : s < n) : (ceil n ws row ah).getD s 0 = minL ((chs n ws row ah s).map (·.1)) := by
  unfold ceil
  rw [List.getD_eq_getElem?_getD, List.getElem?_map, List.getElem?_range h]
  rfl
theorem ceil_le {n : Nat} {ws : List (List Int)} {row : List (Option Int)} {ah : List Int} {s p : Nat} {k : Int} (h : s < n) (hp : p < n) (hk : row.getD p none = some k) : (ceil n ws row ah).getD s 0 ≤ mat ws s p + k + ah.getD p 0 := by
  rw [ceil_at h]
  exact minL_le (List.mem_map.mpr ⟨_, chs_mem.mpr ⟨p, k, hp, hk, rfl⟩, rfl⟩)
/-- no service is cheaper -/
theorem Run.low {n : Nat} (hn : 0 < n) {ws : List (List Int)} {rs : List (List (Option Int))} {ps : List Nat} {c : Int} {a : Nat} (h : Run n ws rs ps c a) : ∀ rest, (val n ws (rs ++ rest)).getD 0 0 ≤ c + (val n ws rest).getD a 0 := by
  induction h with
  | nil => intro rest; simp
  | @snoc rs ps c a r p k h0 hp hk ih =>
    intro rest
    have h1 := ih (r :: rest)
    rw [List.append_assoc]
    have h2 := ceil_le (ws := ws) (ah := val n ws rest) (h0.lt hn) hp hk
    have h3 : (val n ws (r :: rest)).getD a 0 = (ceil n ws r (val n ws rest)).getD a 0 := rfl
    rw [h3] at h1
    have h4 : rs ++ r :: rest = rs ++ ([r] ++ rest) := rfl
    rw [h4] at h1
    omega
theorem val_nil {n : Nat} {ws : List (List Int)} {a : Nat} : (val n ws []).getD a 0 = 0 := by
  unfold val
  rw [List.getD_eq_getElem?_getD, List.getElem?_replicate]
  split <;> rfl
theorem Run.ge {n : Nat} (hn : 0 < n) {ws : List (List Int)} {rs : List (List (Option Int))} {ps : List Nat} {c : Int} {a : Nat} (h : Run n ws rs ps c a) : (val n ws rs).getD 0 0 ≤ c := by
  have := h.low hn []
  rw [List.append_nil, val_nil] at this
  omega
def vals (n : Nat) (ws : List (List Int)) : List (List (Option Int)) → List (List Int)
  | [] => [val n ws []]
  | r :: t => val n ws (r :: t) :: vals n ws t
theorem vals_len {n : Nat} {ws : List (List Int)} : ∀ rs, (vals n ws rs).length = rs.length + 1
  | [] => rfl
  | _ :: t => by simp [vals, vals_len t]
theorem vals_at {n : Nat} {ws : List (List Int)} : ∀ (rs : List (List (Option Int))) (i : Nat), i ≤ rs.length → (vals n ws rs)[i]? = some (val n ws (rs.drop i))
  | [], 0, _ => rfl
  | r :: t, 0, _ => rfl
  | r :: t, i + 1, h => by
    have := vals_at (n := n) (ws := ws) t i (by simpa using h)
    simpa [vals] using this
  | [], i + 1, h => by simp at h
/-- the rows of the names -/
def RowsOf (S : Sys) (zs : List Str) (rs : List (List (Option Int))) : Prop := Paired (fun z r => (z, r) ∈ S.rs) zs rs
theorem prd_rev {α β : Type} {F : α → β → Prop} {xs : List α} {ys : List β} (h : Paired F xs ys) : Paired F xs.reverse ys.reverse := by
  induction h with
  | nil => exact .nil
  | cons r _ ih =>
    rw [List.reverse_cons, List.reverse_cons]
    exact Paired.snoc ih r
def spFloor (C : Addr) : Sp := fun vs H Q _ => ∃ (p : Addr) (S : Sys) (v : V) (zs : List Str) (rs : List (List (Option Int))), vs = [.ref p, v] ∧ SysOk S ∧ SysAt C H p S ∧ RowAt H v zs ∧ RowsOf S zs rs ∧ zs.length ≤ 900 ∧
  ∀ l ts H', Same H H' → H l = none → H' l = some (.lst ts) → Paired (IntT H') ts (vals S.n.toNat S.ws rs) → Q (.ref l) H'
def spWisest (C : Addr) : Sp := fun vs H Q _ => ∃ (p : Addr) (S : Sys) (v : V) (zs : List Str) (rs : List (List (Option Int))), vs = [.ref p, v] ∧ SysOk S ∧ SysAt C H p S ∧ RowAt H v zs ∧ RowsOf S zs rs ∧ zs.length ≤ 900 ∧
  ∀ (t t2 : Addr) (ps : List Nat) (c : Int) (a : Nat) (H' : Hp), Same H H' → H' t = some (.tup [.int c, .ref t2]) → H' t2 = some (.tup ((ps.map fun x => ((x : Nat) : Int)).map V.int)) → Run S.n.toNat S.ws rs ps c a → c = (val S.n.toNat S.ws rs).getD 0 0 → Q (.ref t) H'
theorem walk_revT {K : PySem.W.Frag} {a : Addr} {xs : List V} : Walk (RT.ItvT K a xs.length) xs.length (fun H => SqT K H a xs) (fun i H x H' => H' = H ∧ xs[xs.length - 1 - i]? = some x) :=
  ⟨fun i _ hi q => ⟨hi, xs, xs[xs.length - 1 - i]'(by omega), q, by simp [show xs.length - 1 - i < xs.length by omega]⟩, fun _ _ => Nat.le_refl _, fun _ _ _ _ _ q y => ⟨y.1, y.2 xs q⟩⟩
/-- a list of lists of ints that is read -/
structure LM (H : Hp) (L : Addr) (n : Nat) (M : Nat → Nat → Int) : Prop where
  ex : ∃ as : List Addr, H L = some (.lst (as.map V.ref)) ∧ as.length = n ∧ ∀ (i : Nat) a, as[i]? = some a → H a = some (.lst (rowV n (M i)))
theorem LM.same {H H' : Hp} {L : Addr} {n : Nat} {M : Nat → Nat → Int} (m : LM H L n M) (k : Same H H') : LM H' L n M := by
  obtain ⟨as, h1, h2, h3⟩ := m.ex
  exact ⟨as, k _ _ h1, h2, fun i a e => k _ _ (h3 i a e)⟩
def spLawWays : Sp := fun vs H Q _ => ∃ (v : V) (rows : List (List Int)) (n top : Int), vs = [v] ∧ TupT IntT H v rows ∧ Square n top rows ∧ 1 ≤ n ∧ n ≤ 100 ∧
  ∀ L M H', Same H H' → LM H' L n.toNat M → Least n.toNat (mat rows) M → Q (.ref L) H'
def prodM (n : Nat) (M R : Nat → Nat → Int) : Nat → Nat → Int := fun i j => minL ((List.range n).map fun c => M i c + R c j)
theorem prodM_le {n : Nat} {M R : Nat → Nat → Int} {i j c : Nat} (h : c < n) : prodM n M R i j ≤ M i c + R c j := minL_le (List.mem_map.mpr ⟨c, List.mem_range.mpr h, rfl⟩)
theorem prodM_has {n : Nat} {M R : Nat → Nat → Int} {i j : Nat} (h : 0 < n) : ∃ c, c < n ∧ prodM n M R i j = M i c + R c j := by
  have hne : (List.range n).map (fun c => M i c + R c j) ≠ [] := by
    intro e
    have := congrArg List.length e
    rw [List.length_map, List.length_range] at this
    simp at this
    omega
  obtain ⟨c, hc, e⟩ := List.mem_map.mp (minL_mem hne)
  exact ⟨c, List.mem_range.mp hc, e.symm⟩
/-- the requests of a dict, in rows -/
structure ReqAt (H : Hp) (d : Addr) (n : Int) (rs0 : List (Str × List (Option Int))) : Prop where
  ex : ∃ kvs, H d = some (.dK kvs) ∧ DctOf OptT H kvs rs0
  nd : (rs0.map (·.1)).Nodup
  pr : ∀ q ∈ rs0, Prices n 9 q.2
theorem ReqAt.same {H H' : Hp} {d : Addr} {n : Int} {rs0 : List (Str × List (Option Int))} (r : ReqAt H d n rs0) (k : Same H H') : ReqAt H' d n rs0 := by
  obtain ⟨kvs, h1, h2⟩ := r.ex
  exact ⟨⟨kvs, k _ _ h1, h2.firm OptT.firm (same_tups k)⟩, r.nd, r.pr⟩
theorem ReqAt.get {H : Hp} {d : Addr} {n : Int} {rs0 : List (Str × List (Option Int))} (r : ReqAt H d n rs0) {z : Str} {row : List (Option Int)} (h : (z, row) ∈ rs0) : ∃ a, DGet H d (.str z) (some (.ref a)) ∧ H a = some (.tup (row.map vO)) := by
  obtain ⟨kvs, h1, h2⟩ := r.ex
  obtain ⟨v, hv, a, rfl, ha⟩ := dct_some h2 r.nd h
  exact ⟨a, by rw [← hv]; exact DGet.k (k := Sum.inr z) h1, ha⟩
/-- all services one request longer -/
def extF (M : Nat → Nat → Int) (r : List (Option Int)) (q : Int × Int) (p : Nat) : Option (Int × Int) := match r.getD p none with
  | some k => some (q.1 + M q.2.toNat p + k, (p : Int))
  | none => none
theorem extF_none {M : Nat → Nat → Int} {r : List (Option Int)} {q : Int × Int} {p : Nat} (h : r.getD p none = none) : extF M r q p = none := by unfold extF; rw [h]
theorem extF_some {M : Nat → Nat → Int} {r : List (Option Int)} {q : Int × Int} {p : Nat} {k : Int} (h : r.getD p none = some k) : extF M r q p = some (q.1 + M q.2.toNat p + k, (p : Int)) := by unfold extF; rw [h]
def ext1 (n : Nat) (M : Nat → Nat → Int) (r : List (Option Int)) (q : Int × Int) : List (Int × Int) := (List.range n).filterMap (extF M r q)
def extA (n : Nat) (M : Nat → Nat → Int) (r : List (Option Int)) (fs : List (Int × Int)) : List (Int × Int) := fs.flatMap (ext1 n M r)
theorem ext1_len (n : Nat) (M : Nat → Nat → Int) (r : List (Option Int)) (q : Int × Int) : (ext1 n M r q).length ≤ n := by
  unfold ext1
  exact Nat.le_trans (List.length_filterMap_le _ _) (Nat.le_of_eq List.length_range)
theorem extA_len (n : Nat) (M : Nat → Nat → Int) (r : List (Option Int)) : ∀ fs : List (Int × Int), (extA n M r fs).length ≤ fs.length * n
  | [] => by simp [extA]
  | q :: fs => by
    have h1 := extA_len n M r fs
    have h2 := ext1_len n M r q
    unfold extA at h1 ⊢
    rw [List.flatMap_cons, List.length_append, List.length_cons, Nat.add_mul, Nat.one_mul]
    omega
theorem extA_app (n : Nat) (M : Nat → Nat → Int) (r : List (Option Int)) (fs : List (Int × Int)) (q : Int × Int) : extA n M r (fs ++ [q]) = extA n M r fs ++ ext1 n M r q := by
  unfold extA
  rw [List.flatMap_append, List.flatMap_cons, List.flatMap_nil, List.append_nil]
theorem extA_mem {n : Nat} {M : Nat → Nat → Int} {r : List (Option Int)} {fs : List (Int × Int)} {y : Int × Int} : y ∈ extA n M r fs ↔ ∃ q ∈ fs, ∃ p k, p < n ∧ r.getD p none = some k ∧ y = (q.1 + M q.2.toNat p + k, (p : Int)) := by
  unfold extA
  rw [List.mem_flatMap]
  constructor
  · rintro ⟨q, hq, hy⟩
    unfold ext1 at hy
    obtain ⟨p, hp, e⟩ := List.mem_filterMap.mp hy
    cases hc : r.getD p none with
    | none => rw [extF_none hc] at e; cases e
    | some k => rw [extF_some hc] at e; exact ⟨q, hq, p, k, List.mem_range.mp hp, hc, (Option.some.inj e).symm⟩
  · rintro ⟨q, hq, p, k, hp, hc, e⟩
    exact ⟨q, hq, List.mem_filterMap.mpr ⟨p, List.mem_range.mpr hp, by rw [extF_some hc, e]⟩⟩
/-- found: all services so far -/
structure Found (n : Nat) (ws : List (List Int)) (rs : List (List (Option Int))) (fs : List (Int × Int)) : Prop where
  snd : ∀ q ∈ fs, ∃ ps a, q.2 = ((a : Nat) : Int) ∧ Run n ws rs ps q.1 a
  cpl : ∀ ps c a, Run n ws rs ps c a → (c, ((a : Nat) : Int)) ∈ fs
theorem Found.step {n : Nat} (hn : 0 < n) {ws : List (List Int)} {M : Nat → Nat → Int} (e : ∀ i j, i < n → j < n → M i j = mat ws i j) {rs : List (List (Option Int))} {fs : List (Int × Int)} (f : Found n ws rs fs) (r : List (Option Int)) : Found n ws (rs ++ [r]) (extA n M r fs) := by
  refine ⟨fun y hy => ?_, fun ps c a h => ?_⟩
  · obtain ⟨q, hq, p, k, hp, hk, rfl⟩ := extA_mem.mp hy
    obtain ⟨ps, a, ea, hr⟩ := f.snd q hq
    refine ⟨ps ++ [p], p, rfl, ?_⟩
    rw [ea, Int.toNat_natCast, e _ _ (hr.lt hn) hp]
    exact .snoc hr hp hk
  · obtain ⟨ps0, c0, a0, k, rfl, hr, ha, hk, rfl⟩ := h.inv
    refine extA_mem.mpr ⟨(c0, (a0 : Int)), f.cpl _ _ _ hr, a, k, ha, hk, ?_⟩
    rw [Int.toNat_natCast, e _ _ (hr.lt hn) ha]
theorem extA_ne {n : Int} {M : Nat → Nat → Int} {r : List (Option Int)} {fs : List (Int × Int)} (h : Prices n 9 r) (hf : fs ≠ []) : extA n.toNat M r fs ≠ [] := by
  obtain ⟨x, hx⟩ := h.some
  obtain ⟨p, hp⟩ := List.mem_iff_getElem?.mp hx
  have hl := (List.getElem?_eq_some_iff.mp hp).1
  have hn := h.len
  cases fs with
  | nil => exact absurd rfl hf
  | cons q t =>
    exact List.ne_nil_of_mem (extA_mem.mpr ⟨q, List.mem_cons_self, p, x, by omega, by rw [List.getD_eq_getElem?_getD, hp]; rfl, rfl⟩)
def spLawServices : Sp := fun vs H Q _ => ∃ (L d l : Addr) (M : Nat → Nat → Int) (n : Int) (rs0 : List (Str × List (Option Int))) (zs : List Str) (rs : List (List (Option Int))) (ws : List (List Int)), vs = [.ref L, .ref d, .ref l] ∧ LM H L n.toNat M ∧ 1 ≤ n ∧ n ≤ 6 ∧
  (∀ i j, i < n.toNat → j < n.toNat → M i j = mat ws i j) ∧ ReqAt H d n rs0 ∧ H l = some (.lst (zs.map V.str)) ∧ Paired (fun z r => (z, r) ∈ rs0) zs rs ∧ zs.length ≤ 6 ∧
  ∀ (m : Int) (H' : Hp), Same H H' → (∃ ps a, Run n.toNat ws rs ps m a) → (∀ ps c a, Run n.toNat ws rs ps c a → m ≤ c) → Q (.int m) H'
def spLawPrice : Sp := fun vs H Q _ => ∃ (L d l t : Addr) (M : Nat → Nat → Int) (n : Int) (rs0 : List (Str × List (Option Int))) (zs : List Str) (rs : List (List (Option Int))) (ws : List (List Int)) (ps : List Nat) (c : Int) (a : Nat), vs = [.ref L, .ref d, .ref l, .ref t] ∧ LM H L n.toNat M ∧ 1 ≤ n ∧ n ≤ 6 ∧
  (∀ i j, i < n.toNat → j < n.toNat → M i j = mat ws i j) ∧ ReqAt H d n rs0 ∧ H l = some (.lst (zs.map V.str)) ∧ Paired (fun z r => (z, r) ∈ rs0) zs rs ∧ zs.length ≤ 900 ∧ H t = some (.tup ((ps.map fun x => ((x : Nat) : Int)).map V.int)) ∧ Run n.toNat ws rs ps c a ∧
  ∀ H', Same H H' → Q (.int c) H'
def spLawRow : Sp := fun vs H Q _ => ∃ (d c l : Addr) (zs : List Str) (m : Int), vs = [.ref d, .ref l, .int m] ∧ Dice c H d ∧ H l = some (.lst (zs.map V.str)) ∧ l ≠ d ∧ 1 ≤ zs.length ∧ zs.length ≤ 1000 ∧ 0 ≤ m ∧ m ≤ 900 ∧
  ∀ (R : Addr) (ys : List Str) (H' : Hp), H R = none → H' R = some (.lst (ys.map V.str)) → (ys.length : Int) ≤ m → (∀ y ∈ ys, y ∈ zs) → Keep d H H' → Dice c H' d → Q (.ref R) H'
end Toy

namespace Toy
open PySem PySem.Spec PyProof.Rows L2
section
variable {X : Cx}
/-! flags by their identity -/
def rIsB : R2 := fun x y H Q => ∃ b c, x = .bl b ∧ y = .bl c ∧ Q (.bl (b == c)) H
def rNotB : R2 := fun x y H Q => ∃ b c, x = .bl b ∧ y = .bl c ∧ Q (.bl (b != c)) H
theorem op_isB : OpR X (compareOp .Is) rIsB := by
  intro pins s σ H x y v u Q I rx ry h
  obtain ⟨b, c, rfl, rfl, q⟩ := h
  cases rx
  cases ry
  exact is_bool (fin_bl I q rfl)
theorem op_notB : OpR X (compareOp .IsNot) rNotB := by
  intro pins s σ H x y v u Q I rx ry h
  obtain ⟨b, c, rfl, rfl, q⟩ := h
  cases rx
  cases ry
  exact isnot_bool (fin_bl I q rfl)
/-! the greatest of a tuple of ints -/
theorem dp_ints {K : PySem.W.Frag} {H : Hp} : ∀ ns : List Int, DpAll K H (ns.map V.int) (ns.map PyData.int)
  | [] => .nil
  | n :: r => .cons (.int n) (dp_ints r)
theorem alike_ints (ns : List Int) : PySem.W.AlikeAll (ns.map PyData.int) := by
  constructor
  · intro x hx y hy
    obtain ⟨i, _, rfl⟩ := List.mem_map.mp hx
    obtain ⟨j, _, rfl⟩ := List.mem_map.mp hy
    simp [PySem.W.alike]
  · intro x hx
    obtain ⟨i, _, rfl⟩ := List.mem_map.mp hx
    intro z; cases z
theorem depth_ints : ∀ ns : List Int, PyData.depthAll (ns.map PyData.int) ≤ 1
  | [] => by simp [PyData.depthAll]
  | n :: r => by
    have := depth_ints r
    simp only [List.map_cons, PyData.depthAll, PyData.depth]
    omega
def rMaxT (K : PySem.W.Frag) : List V → Hp → VK → Prop := fun vs H Q => ∃ (a : Addr) (k : Int) (ks : List Int), vs = [V.ref a] ∧ SqT K H a ((k :: ks).map V.int) ∧ Q (.int (ks.foldl max k)) H
theorem cr_maxT (hc : X.calm = true) (hu : X.A.units + 64 < cLine) : CallR X (.builtin "max") (rMaxT X.K) := by
  intro pins s σ H vs us Q I r h
  obtain ⟨a, k, ks, rfl, hs, q⟩ := h
  obtain ⟨u, rfl, ru⟩ := vals1 r
  obtain rfl : u = Value.ref a := ru
  obtain ⟨its, rv, p, _⟩ := I.tuple hs
  obtain ⟨as, hr⟩ := Dp.readsAll I ((k :: ks).map PyData.int) ((k :: ks).map V.int) its (dp_ints _) rv
  have hd := depth_ints (k :: ks)
  refine PySem.W.max_tuple_data (x := PyData.int k) (xs := ks.map PyData.int) (I.ok.hd hc) p (by simpa using hr) (alike_ints (k :: ks)) (by
    have : PyData.depthAll (PyData.int k :: ks.map PyData.int) ≤ 1 := hd
    omega) fun i v h' tk bs hv hrd hk => ?_
  rw [PySem.W.maxD_ints] at hrd
  rw [List.getElem?_toArray] at hv
  obtain ⟨x, hx, rx⟩ := prd_at2 rv hv
  obtain ⟨j, _, rfl⟩ := map_at hx
  obtain ⟨t, rfl⟩ := rx
  have e := (hrd.unique _ _ (Reads.int j t)).1
  cases e
  exact ⟨.int _, H, I.kept (t' := tk) hk, ⟨t, rfl⟩, q⟩
end
theorem walk_zipT {K : PySem.W.Frag} {a b : Addr} {xs ys : List V} {n : Nat} (hn : n = min xs.length ys.length) : Walk (RZ.ItzT K a b) n (fun H => SqT K H a xs ∧ SqT K H b ys) (YPair (fun i => xs[i]?) (fun i => ys[i]?)) := by
  subst hn
  refine ⟨fun i _ hi q => ?_, fun _ q => ⟨xs, ys, q.1, q.2, by omega⟩, fun i H v H' _ q y => ?_⟩
  · have h1 : i < xs.length := by omega
    have h2 : i < ys.length := by omega
    exact ⟨xs, ys, xs[i], ys[i], q.1, q.2, by simp [h1], by simp [h2]⟩
  · obtain ⟨T, x, z, h1, h2, h3, h4, h5⟩ := y
    exact ⟨T, x, z, h1, h2, h3, h4 xs q.1, h5 ys q.2⟩
theorem max_zeros : ∀ n : Nat, (List.replicate n (0 : Int)).foldl max 0 = 0
  | 0 => rfl
  | n + 1 => by rw [List.replicate_succ, List.foldl_cons]; exact max_zeros n
end Toy

namespace Toy
open PySem PySem.Spec PyProof.Rows L2
/-! zip of three tuples -/
def Itz3 (K : PySem.W.Frag) (a b e : Addr) : It :=
  ⟨fun i H => ∃ (xs ys zs : List V) (x y u : V), SqT K H a xs ∧ SqT K H b ys ∧ SqT K H e zs ∧ xs[i]? = some x ∧ ys[i]? = some y ∧ zs[i]? = some u,
    fun i H v H' => ∃ T x y u, v = .ref T ∧ H T = none ∧ H' = upd H T (.tup [x, y, u]) ∧ (∀ xs, SqT K H a xs → xs[i]? = some x) ∧ (∀ ys, SqT K H b ys → ys[i]? = some y) ∧ ∀ zs, SqT K H e zs → zs[i]? = some u,
    fun i H => ∃ xs ys zs : List V, SqT K H a xs ∧ SqT K H b ys ∧ SqT K H e zs ∧ xs.length = i ∧ ys.length = i ∧ zs.length = i⟩
theorem turn_zip3 {P : Program} {w : World} {K : PySem.W.Frag} {elts : List Expr} {kk : Nat} {tpos : Pos} {a b e z TI TO i1 i2 i3 : Addr} (D : ZipSep3 z TI TO i1 i2 i3 [i1, a] [i2, b] [i3, e]) (na : a ≠ i1) (nb : b ≠ i2) (ne : e ≠ i3) :
    Turn P w K (.Tuple elts kk tpos) (Itz3 K a b e) [z, TI, TO, i1, i2, i3] z (fun i h => IsZip h z TI TO .none ∧ IsTupOf3 h TI (.ref i1) (.ref i2) (.ref i3) ∧ (∃ x y u, IsTupOf3 h TO x y u) ∧ h.IsTupleIter i1 a i ∧ h.IsTupleIter i2 b i ∧ h.IsTupleIter i3 e i) where
  mem := by simp
  obj := fun i h st c hc => by
    obtain ⟨hz, hTI, ⟨x, y, u, hTO⟩, ⟨o1, e1, _, d1⟩, ⟨o2, e2, _, d2⟩, ⟨o3, e3, _, d3⟩⟩ := st
    have e' : c = z ∨ c = TI ∨ c = TO ∨ c = i1 ∨ c = i2 ∨ c = i3 := by simpa using hc
    rcases e' with q | q | q | q | q | q
    · rw [q]; exact ⟨_, hz, fun v q => nomatch q⟩
    · rw [q]; exact ⟨_, hTI, fun v q => nomatch q⟩
    · rw [q]; exact ⟨_, hTO, fun v q => nomatch q⟩
    · rw [q]; exact ⟨o1, e1, fun v q => by rw [d1] at q; cases q⟩
    · rw [q]; exact ⟨o2, e2, fun v q => by rw [d2] at q; cases q⟩
    · rw [q]; exact ⟨o3, e3, fun v q => by rw [d3] at q; cases q⟩
  keep := fun i h h' st k => by
    obtain ⟨hz, hTI, ⟨x, y, u, hTO⟩, h1, h2, h3⟩ := st
    exact ⟨k z (by simp) _ hz, k TI (by simp) _ hTI, ⟨x, y, u, k TO (by simp) _ hTO⟩, h1.at fun o q => k i1 (by simp) o q, h2.at fun o q => k i2 (by simp) o q, h3.at fun o q => k i3 (by simp) o q⟩
  item := by
    intro X hP hw hK hc i pins s σ H E I hf st hg
    subst hP hw hK
    obtain ⟨hz, hTI, ⟨x0, y0, u0, hTO⟩, h1, h2, h3⟩ := st
    obtain ⟨xs, ys, zs, x, y, u, hqx, hqy, hqz, hx, hy, hu⟩ := hg
    obtain ⟨its, rv, p, _⟩ := I.tuple hqx
    obtain ⟨its2, rv2, p2, _⟩ := I.tuple hqy
    obtain ⟨its3, rv3, p3, _⟩ := I.tuple hqz
    obtain ⟨v1, hv1, r1⟩ := rv.get hx
    obtain ⟨v2, hv2, r2⟩ := rv2.get hy
    obtain ⟨v3, hv3, r3⟩ := rv3.get hu
    have hh : X.A.in1.handled = none := I.ok.hd hc
    have hzl : z < s.heap.objs.size := Heap.lt_size hz
    refine wpAny_pyNext_zipD3_item D (Draws.tuple (prog := X.prog) (w := X.w) hh i1 a na its.toArray) (Draws.tuple (prog := X.prog) (w := X.w) hh i2 b nb its2.toArray) (Draws.tuple (prog := X.prog) (w := X.w) hh i3 e ne its3.toArray) hz hTI hTO ⟨h1, p⟩ ⟨h2, p2⟩ ⟨h3, p3⟩
      (by rw [List.size_toArray]; exact (List.getElem?_eq_some_iff.mp hv1).1) (by rw [List.size_toArray]; exact (List.getElem?_eq_some_iff.mp hv2).1) (by rw [List.size_toArray]; exact (List.getElem?_eq_some_iff.mp hv3).1) fun w1 w2 w3 h' tk g1 g2 g3 z' TO' s1' s2' s3' hT hsz hk => ?_
    have q1 : w1 = v1 := by
      have g : its.toArray[i]? = some w1 := g1
      rw [List.getElem?_toArray, hv1] at g
      exact (Option.some.inj g).symm
    have q2 : w2 = v2 := by
      have g : its2.toArray[i]? = some w2 := g2
      rw [List.getElem?_toArray, hv2] at g
      exact (Option.some.inj g).symm
    have q3 : w3 = v3 := by
      have g : its3.toArray[i]? = some w3 := g3
      rw [List.getElem?_toArray, hv3] at g
      exact (Option.some.inj g).symm
    subst q1; subst q2; subst q3
    refine ⟨_, rfl, wpAny_letOwnedTupleGo_zip (s := { s with heap := h', toks := tk }) z' fun h'' z'' sb => ?_⟩
    have hT2 : h''.get? s.heap.objs.size = some { cls := .type "tuple", data := .seq #[w1, w2, w3] } := (sb.2 _ (Nat.ne_of_gt hzl)).trans hT
    have new : ObjOk X.prog X.w (upd H s.heap.objs.size (.tup [x, y, u])) h'' s.heap.objs.size (.tup [x, y, u]) :=
      ⟨(by show 3 ≤ sizeLine; decide), [w1, w2, w3], .cons r1 (.cons r2 (.cons r3 .nil)), ⟨_, hT2, rfl, _, rfl⟩⟩
    have I1 : Inv X pins σ (upd H s.heap.objs.size (.tup [x, y, u])) { s with heap := h'', toks := tk } :=
      I.turnedNew (ch := [z, TI, TO, i1, i2, i3]) (fun c o hb q => (sb.2 c (fun q' => hb (by simp [q']))).trans (hk c o (fun q' => hb (by simp [q'])) (fun q' => hb (by simp [q'])) (fun q' => hb (by simp [q'])) (fun q' => hb (by simp [q'])) (fun q' => hb (by simp [q'])) q)) hf (Nat.le_refl _) new
    refine ⟨.ref s.heap.objs.size, _, I1, rfl, ⟨_, x, y, u, rfl, I.hok.fresh (Nat.le_refl _), rfl, fun l hl => by rw [I.tuple_inj hl hqx]; exact hx, fun l hl => by rw [I.tuple_inj hl hqy]; exact hy, fun l hl => by rw [I.tuple_inj hl hqz]; exact hu⟩, ⟨z'', ?_, ⟨w1, w2, w3, ?_⟩, ?_, ?_, ?_⟩, fun c hcm => ?_⟩
    · exact (sb.2 _ D.TIz).trans (hk _ _ D.TIz D.TITO D.TIi1 D.TIi2 D.TIi3 hTI)
    · exact (sb.2 _ D.TOz).trans TO'
    · exact s1'.1.at fun o q => (sb.2 _ (Ne.symm D.zi1)).trans q
    · exact s2'.1.at fun o q => (sb.2 _ (Ne.symm D.zi2)).trans q
    · exact s3'.1.at fun o q => (sb.2 _ (Ne.symm D.zi3)).trans q
    · have hlt : c < s.heap.objs.size := by
        have e' : c = z ∨ c = TI ∨ c = TO ∨ c = i1 ∨ c = i2 ∨ c = i3 := by simpa using hcm
        rcases e' with q | q | q | q | q | q
        · rw [q]; exact hzl
        · rw [q]; exact Heap.lt_size hTI
        · rw [q]; exact Heap.lt_size hTO
        · rw [q]; obtain ⟨_, e1, _⟩ := h1; exact Heap.lt_size e1
        · rw [q]; obtain ⟨_, e2, _⟩ := h2; exact Heap.lt_size e2
        · rw [q]; obtain ⟨_, e2, _⟩ := h3; exact Heap.lt_size e2
      rw [upd_ne (Nat.ne_of_lt hlt)]
      exact (hf c hcm).1
  done := by
    intro X hP hw hK hc i pins s σ H E I hf st hg
    subst hP hw hK
    obtain ⟨hz, hTI, ⟨x0, y0, u0, hTO⟩, h1, h2, h3⟩ := st
    obtain ⟨xs, ys, zs, hqx, hqy, hqz, l1, l2, l3⟩ := hg
    obtain ⟨its, rv, p, _⟩ := I.tuple hqx
    obtain ⟨its2, rv2, p2, _⟩ := I.tuple hqy
    obtain ⟨its3, rv3, p3, _⟩ := I.tuple hqz
    have hh : X.A.in1.handled = none := I.ok.hd hc
    have m1 : its.toArray.size = i := by rw [List.size_toArray, ← rv.length]; exact l1
    have m2 : its2.toArray.size = i := by rw [List.size_toArray, ← rv2.length]; exact l2
    have m3 : its3.toArray.size = i := by rw [List.size_toArray, ← rv3.length]; exact l3
    refine wpAny_pyNext_zipD3_end D (Draws.tuple (prog := X.prog) (w := X.w) hh i1 a na its.toArray) (Draws.tuple (prog := X.prog) (w := X.w) hh i2 b nb its2.toArray) (Draws.tuple (prog := X.prog) (w := X.w) hh i3 e ne its3.toArray) hz hTI hTO ⟨h1, p⟩ ⟨h2, p2⟩ ⟨h3, p3⟩ (by omega) (by omega) (by omega) (.inl m1.symm) fun h' tk hk => ⟨rfl, ?_⟩
    exact I.turnedL (t' := tk) (ch := [z, TI, TO, i1, i2, i3]) (fun c o hb q =>
      hk c o (fun q' => hb (by simp [q'])) (fun q' => hb (by simp [q'])) (fun q' => hb (by simp [q'])) (fun q' => hb (by simp [q'])) (fun q' => hb (by simp [q'])) q) hf
  self := fun A i s Q E st h => wpAny_pyIter_zip st.1 h
def iZip3 (K : PySem.W.Frag) (ta : TA) : TI := fun σ H R => ta σ H fun vs H1 => ∃ a b e xs ys zs, vs = [.ref a, .ref b, .ref e] ∧ SqT K H1 a xs ∧ SqT K H1 b ys ∧ SqT K H1 e zs ∧ R (Itz3 K a b e) H1
theorem pi_zip3 {X : Cx} {e1 e2 e3 : Expr} {ta : TA} {p pos tpos : Pos} {elts : List Expr} {kk : Nat} (hg : Gl X "zip") (hm : X.mg "zip" = none) (ha : PA X [e1, e2, e3] ta)
    (hs : starEach [e1, e2, e3] X.env = (false, eval e1 X.env) :: starEach [e2, e3] X.env := by rfl) (hpl : (backTo pos (starEach [e2, e3] X.env)).any (·.1) = false := by rfl) :
    PI X (.Tuple elts kk tpos) (.Call (.Name "zip" p) [e1, e2, e3] [] pos) (iZip3 X.K ta) := by
  refine ⟨fun pins s σ H R I h => ?_⟩
  refine Call_ (ld_blt I hg hm PyProof.Rows.boot_zip (PyProof.Rows.callWith_type1 (thn (ha.run pos pins s σ H _ I h) fun us s1 ⟨vs, H1, I1, r1, q1⟩ => ?_) hs hpl))
  obtain ⟨a, b, e, xs, ys, zs, ex, hqx, hqy, hqz, q⟩ := q1
  subst ex
  cases r1 with
  | cons r rr =>
    cases rr with
    | cons r' rr =>
      cases rr with
      | cons r'' rr =>
        cases rr
        cases r
        cases r'
        cases r''
        obtain ⟨its, rv, p1, _⟩ := I1.tuple hqx
        obtain ⟨its2, rv2, p2, _⟩ := I1.tuple hqy
        obtain ⟨its3, rv3, p3, _⟩ := I1.tuple hqz
        have la : a < s1.heap.objs.size := by obtain ⟨_, q, _⟩ := p1; exact Heap.lt_size q
        have lb : b < s1.heap.objs.size := by obtain ⟨_, q, _⟩ := p2; exact Heap.lt_size q
        have le : e < s1.heap.objs.size := by obtain ⟨_, q, _⟩ := p3; exact Heap.lt_size q
        refine zip_begins3 (begins_tuple a its.toArray) (begins_tuple b its2.toArray) (begins_tuple e its3.toArray) p1 p2 p3 fun h' hz hTI hTO h1 h2 h3 hsz hk => wpAny_pyIter_zip hz ?_
        have I2 : Inv X pins σ H1 { s1 with heap := h' } := I1.kept (t' := s1.toks) hk
        refine ⟨s1.heap.objs.size + 5, [s1.heap.objs.size + 5, s1.heap.objs.size + 3, s1.heap.objs.size + 4, s1.heap.objs.size, s1.heap.objs.size + 1, s1.heap.objs.size + 2], _, _, H1, rfl, I2,
          turn_zip3 (zip_sep3 (N := s1.heap.objs.size) (by simpa using la) (by simpa using lb) (by simpa using le)) (Nat.ne_of_lt la) (Nat.ne_of_lt (Nat.lt_succ_of_lt lb)) (Nat.ne_of_lt (Nat.lt_succ_of_lt (Nat.lt_succ_of_lt le))), ⟨hz, hTI, ⟨_, _, _, hTO⟩, ⟨_, h1, rfl, rfl⟩, ⟨_, h2, rfl, rfl⟩, ⟨_, h3, rfl, rfl⟩⟩, fun c hcm => ?_, q⟩
        have e' : c = s1.heap.objs.size + 5 ∨ c = s1.heap.objs.size + 3 ∨ c = s1.heap.objs.size + 4 ∨ c = s1.heap.objs.size ∨ c = s1.heap.objs.size + 1 ∨ c = s1.heap.objs.size + 2 := by simpa using hcm
        have hle : s1.heap.objs.size ≤ c := by
          rcases e' with z | z | z | z | z | z
          · rw [z]; exact Nat.le_add_right _ _
          · rw [z]; exact Nat.le_add_right _ _
          · rw [z]; exact Nat.le_add_right _ _
          · rw [z]; exact Nat.le_refl _
          · rw [z]; exact Nat.le_add_right _ _
          · rw [z]; exact Nat.le_add_right _ _
        exact I1.fpOk hle (I1.hok.fresh hle)
/-- what a turn of three brings -/
theorem walk_zip3 {K : PySem.W.Frag} {a b e : Addr} {xs ys zs : List V} (l2 : ys.length = xs.length) (l3 : zs.length = xs.length) : Walk (Itz3 K a b e) xs.length (fun H => SqT K H a xs ∧ SqT K H b ys ∧ SqT K H e zs)
    (fun i H v H' => ∃ T x y u, v = .ref T ∧ H T = none ∧ H' = upd H T (.tup [x, y, u]) ∧ xs[i]? = some x ∧ ys[i]? = some y ∧ zs[i]? = some u) := by
  refine ⟨fun i _ hi q => ?_, fun _ q => ⟨xs, ys, zs, q.1, q.2.1, q.2.2, rfl, l2, l3⟩, fun i H v H' _ q y => ?_⟩
  · exact ⟨xs, ys, zs, xs[i], ys[i], zs[i], q.1, q.2.1, q.2.2, by simp [hi], by simp [l2, hi], by simp [l3, hi]⟩
  · obtain ⟨T, x, y, u, h1, h2, h3, h4, h5, h6⟩ := y
    exact ⟨T, x, y, u, h1, h2, h3, h4 xs q.1, h5 ys q.2.1, h6 zs q.2.2⟩
/-! the least of a tuple of ints -/
def rMinT (K : PySem.W.Frag) : List V → Hp → VK → Prop := fun vs H Q => ∃ (a : Addr) (k : Int) (ks : List Int), vs = [V.ref a] ∧ SqT K H a ((k :: ks).map V.int) ∧ Q (.int (ks.foldl min k)) H
theorem cr_minT {X : Cx} (hc : X.calm = true) (hu : X.A.units + 64 < cLine) : CallR X (.builtin "min") (rMinT X.K) := by
  intro pins s σ H vs us Q I r h
  obtain ⟨a, k, ks, rfl, hs, q⟩ := h
  obtain ⟨u, rfl, ru⟩ := vals1 r
  obtain rfl : u = Value.ref a := ru
  obtain ⟨its, rv, p, _⟩ := I.tuple hs
  obtain ⟨as, hr⟩ := Dp.readsAll I ((k :: ks).map PyData.int) ((k :: ks).map V.int) its (dp_ints _) rv
  have hd := depth_ints (k :: ks)
  refine PySem.W.min_tuple_data (x := PyData.int k) (xs := ks.map PyData.int) (I.ok.hd hc) p (by simpa using hr) (alike_ints (k :: ks)) (by
    have : PyData.depthAll (PyData.int k :: ks.map PyData.int) ≤ 1 := hd
    omega) fun i v h' tk bs hv hrd hk => ?_
  rw [PySem.W.minD_ints] at hrd
  rw [List.getElem?_toArray] at hv
  obtain ⟨x, hx, rx⟩ := prd_at2 rv hv
  obtain ⟨j, _, rfl⟩ := map_at hx
  obtain ⟨t, rfl⟩ := rx
  have e := (hrd.unique _ _ (Reads.int j t)).1
  cases e
  exact ⟨.int _, H, I.kept (t' := tk) hk, ⟨t, rfl⟩, q⟩
theorem foldl_min_le : ∀ (ks : List Int) (k : Int), ks.foldl min k ≤ k ∧ ∀ x ∈ ks, ks.foldl min k ≤ x
  | [], k => ⟨Int.le_refl _, by simp⟩
  | y :: r, k => by
    obtain ⟨h1, h2⟩ := foldl_min_le r (min k y)
    rw [List.foldl_cons]
    refine ⟨by omega, fun x hx => ?_⟩
    rcases List.mem_cons.mp hx with e | e
    · subst e; omega
    · exact h2 x e
end Toy

namespace Toy
open PySem PySem.Spec PyProof.Rows L2
/-! offsets: plain mathematics -/
structure Met (n : Nat) (ws : List (List Int)) : Prop where
  nn : ∀ i j, i < n → j < n → 0 ≤ mat ws i j
  z : ∀ i, i < n → mat ws i i = 0
  tri : ∀ i j k, i < n → j < n → k < n → mat ws i k ≤ mat ws i j + mat ws j k
theorem Least.met {n : Nat} {R : Nat → Nat → Int} {ws : List (List Int)} (L : Least n R (mat ws)) (h : ∀ i j, i < n → j < n → 0 ≤ R i j) : Met n ws := by
  refine ⟨fun i j hi hj => ?_, fun i hi => ?_, fun i j k hi hj hk => ?_⟩
  · obtain ⟨l, w, e⟩ := L.has i j hi hj
    rw [← e]; exact rc_nn h l w.lt
  · have h1 := L.le i i [i] hi hi ⟨rfl, rfl, by simpa using hi⟩
    obtain ⟨l, w, e⟩ := L.has i i hi hi
    have h2 := rc_nn h l w.lt
    have h3 : rc R [i] = 0 := rfl
    omega
  · obtain ⟨l, w, e⟩ := L.has i j hi hj
    obtain ⟨l', w', e'⟩ := L.has j k hj hk
    obtain ⟨m, wm, em⟩ := way_cat (R := R) w w'
    have := L.le i k m hi hk wm
    omega
theorem SysOk.met {S : Sys} (ok : SysOk S) : Met S.n.toNat S.ws := ok.wy.least.met ok.sq.nn
/-- what is served, with the prices so far -/
def svF (off : List Int) (row : List (Option Int)) (a : Nat) : Option (Int × Nat) := match row.getD a none with
  | some k => some (off.getD a 0 + k, a)
  | none => none
def srv (n : Nat) (off : List Int) (row : List (Option Int)) : List (Int × Nat) := (List.range n).filterMap (svF off row)
theorem svF_some {off : List Int} {row : List (Option Int)} {a : Nat} {k : Int} (h : row.getD a none = some k) : svF off row a = some (off.getD a 0 + k, a) := by unfold svF; rw [h]
theorem svF_none {off : List Int} {row : List (Option Int)} {a : Nat} (h : row.getD a none = none) : svF off row a = none := by unfold svF; rw [h]
theorem srv_mem {n : Nat} {off : List Int} {row : List (Option Int)} {q : Int × Nat} : q ∈ srv n off row ↔ ∃ a k, a < n ∧ row.getD a none = some k ∧ q = (off.getD a 0 + k, a) := by
  unfold srv
  rw [List.mem_filterMap]
  constructor
  · rintro ⟨a, ha, e⟩
    cases hc : row.getD a none with
    | none => rw [svF_none hc] at e; cases e
    | some k => rw [svF_some hc] at e; exact ⟨a, k, List.mem_range.mp ha, hc, (Option.some.inj e).symm⟩
  · rintro ⟨a, k, ha, hk, rfl⟩
    exact ⟨a, List.mem_range.mpr ha, svF_some hk⟩
def rawAt (ws : List (List Int)) (sv : List (Int × Nat)) (b : Nat) : Int := minL (sv.map fun q => q.1 + mat ws q.2 b)
def rawL (n : Nat) (ws : List (List Int)) (sv : List (Int × Nat)) : List Int := (List.range n).map (rawAt ws sv)
theorem rawL_len {n : Nat} {ws : List (List Int)} {sv : List (Int × Nat)} : (rawL n ws sv).length = n := by unfold rawL; rw [List.length_map, List.length_range]
theorem rawL_at {n : Nat} {ws : List (List Int)} {sv : List (Int × Nat)} {b : Nat} (h : b < n) : (rawL n ws sv).getD b 0 = rawAt ws sv b := by
  unfold rawL
  rw [List.getD_eq_getElem?_getD, List.getElem?_map, List.getElem?_range h]
  rfl
theorem raw_le {ws : List (List Int)} {sv : List (Int × Nat)} {b : Nat} {q : Int × Nat} (h : q ∈ sv) : rawAt ws sv b ≤ q.1 + mat ws q.2 b := minL_le (List.mem_map.mpr ⟨q, h, rfl⟩)
theorem raw_has {ws : List (List Int)} {sv : List (Int × Nat)} {b : Nat} (h : sv ≠ []) : ∃ q ∈ sv, rawAt ws sv b = q.1 + mat ws q.2 b := by
  have hne : sv.map (fun q => q.1 + mat ws q.2 b) ≠ [] := by
    intro e
    exact h (List.map_eq_nil_iff.mp e)
  obtain ⟨q, hq, e⟩ := List.mem_map.mp (minL_mem hne)
  exact ⟨q, hq, e.symm⟩
def newOff (r : List Int) : List Int := r.map fun c => c - minL r
/-- right offsets -/
structure OffOk (n : Nat) (ws : List (List Int)) (off : List Int) : Prop where
  len : off.length = n
  nn : ∀ b, b < n → 0 ≤ off.getD b 0
  zero : ∃ b, b < n ∧ off.getD b 0 = 0
  tri : ∀ a b, a < n → b < n → off.getD b 0 ≤ off.getD a 0 + mat ws a b
/-- offsets of a row, and the sum of its rises -/
structure Offs (n : Nat) (ws : List (List Int)) (rs : List (List (Option Int))) (off : List Int) (tot : Int) : Prop where
  lo : ∀ ps c a b, Run n ws rs ps c a → b < n → off.getD b 0 + tot ≤ c + mat ws a b
  at_ : ∀ b, b < n → ∃ ps c a, Run n ws rs ps c a ∧ off.getD b 0 + tot = c + mat ws a b
theorem Offs.first {n : Nat} {ws : List (List Int)} {off : List Int} (e : ∀ b, b < n → off.getD b 0 = mat ws 0 b) : Offs n ws [] off 0 := by
  refine ⟨fun ps c a b h hb => ?_, fun b hb => ⟨[], 0, 0, .nil, by rw [e b hb]; omega⟩⟩
  have hl : ps = [] := List.eq_nil_of_length_eq_zero (by have := h.len; simpa using this)
  subst hl
  obtain ⟨e1, e2⟩ := (Run.nil (n := n) (ws := ws)).fn h
  subst e1; subst e2
  rw [e b hb]; omega
theorem OffOk.first {n : Nat} {ws : List (List Int)} {off : List Int} (M : Met n ws) (hn : 0 < n) (hl : off.length = n) (e : ∀ b, b < n → off.getD b 0 = mat ws 0 b) : OffOk n ws off := by
  refine ⟨hl, fun b hb => by rw [e b hb]; exact M.nn _ _ hn hb, ⟨0, hn, by rw [e 0 hn]; exact M.z 0 hn⟩, fun a b ha hb => ?_⟩
  rw [e a ha, e b hb]
  exact M.tri _ _ _ hn ha hb
section
variable {n : Nat} {ws : List (List Int)} {off : List Int} {row : List (Option Int)}
theorem srv_ne (hlen : row.length = n) (hs : ∃ x : Int, some x ∈ row) : srv n off row ≠ [] := by
  obtain ⟨x, hx⟩ := hs
  obtain ⟨p, hp⟩ := List.mem_iff_getElem?.mp hx
  have hl := (List.getElem?_eq_some_iff.mp hp).1
  exact List.ne_nil_of_mem (srv_mem.mpr ⟨p, x, by omega, by rw [List.getD_eq_getElem?_getD, hp]; rfl, rfl⟩)
theorem newOff_at {r : List Int} {b : Nat} (h : b < r.length) : (newOff r).getD b 0 = r.getD b 0 - minL r := by
  unfold newOff
  rw [List.getD_eq_getElem?_getD, List.getElem?_map, List.getD_eq_getElem?_getD, List.getElem?_eq_getElem h]
  rfl
theorem min_at {r : List Int} (h : 0 < r.length) : (∃ b, b < r.length ∧ r.getD b 0 = minL r) ∧ ∀ b, b < r.length → minL r ≤ r.getD b 0 := by
  have hne : r ≠ [] := by intro e; subst e; simp at h
  constructor
  · obtain ⟨b, hb, e⟩ := List.getElem_of_mem (minL_mem hne)
    exact ⟨b, hb, by rw [List.getD_eq_getElem?_getD, List.getElem?_eq_getElem hb]; exact e⟩
  · intro b hb
    rw [List.getD_eq_getElem?_getD, List.getElem?_eq_getElem hb]
    exact minL_le (List.getElem_mem hb)
theorem OffOk.step (M : Met n ws) (hn : 0 < n) (hlen : row.length = n) (hs : ∃ x : Int, some x ∈ row) : OffOk n ws (newOff (rawL n ws (srv n off row))) := by
  have hr : (rawL n ws (srv n off row)).length = n := rawL_len
  obtain ⟨⟨b0, hb0, e0⟩, hmin⟩ := min_at (r := rawL n ws (srv n off row)) (by omega)
  have hne := srv_ne (off := off) hlen hs
  refine ⟨by unfold newOff; rw [List.length_map]; exact hr, fun b hb => ?_, ⟨b0, by omega, ?_⟩, fun a b ha hb => ?_⟩
  · rw [newOff_at (by omega)]
    have := hmin b (by omega)
    omega
  · rw [newOff_at hb0]; omega
  · rw [newOff_at (by omega), newOff_at (by omega), rawL_at ha, rawL_at hb]
    obtain ⟨q, hq, e⟩ := raw_has (ws := ws) (b := a) hne
    obtain ⟨p, k, hp, _, rfl⟩ := srv_mem.mp hq
    have h1 := raw_le (ws := ws) (b := b) hq
    have h2 := M.tri p a b hp ha hb
    simp only at e h1
    omega
theorem rise_ge (O : OffOk n ws off) (M : Met n ws) (hn : 0 < n) (hlen : row.length = n) (hs : ∃ x : Int, some x ∈ row) : ∃ x : Int, some x ∈ row ∧ x ≤ minL (rawL n ws (srv n off row)) := by
  have hr : (rawL n ws (srv n off row)).length = n := rawL_len
  obtain ⟨⟨b, hb, e⟩, _⟩ := min_at (r := rawL n ws (srv n off row)) (by omega)
  rw [rawL_at (by omega)] at e
  obtain ⟨q, hq, e2⟩ := raw_has (ws := ws) (b := b) (srv_ne (off := off) hlen hs)
  obtain ⟨p, k, hp, hk, rfl⟩ := srv_mem.mp hq
  have h1 := O.nn p hp
  have h2 := M.nn p b hp (by omega)
  refine ⟨k, ?_, by simp only at e2; omega⟩
  rw [List.getD_eq_getElem?_getD] at hk
  cases hc : row[p]? with
  | none => rw [hc] at hk; cases hk
  | some o =>
    rw [hc] at hk
    have hk2 : o = some k := hk
    subst hk2
    exact List.mem_of_getElem? hc
theorem Offs.step (hn : 0 < n) (hlen : row.length = n) (hs : ∃ x : Int, some x ∈ row) {rs : List (List (Option Int))} {tot : Int} (O : Offs n ws rs off tot) :
    Offs n ws (rs ++ [row]) (newOff (rawL n ws (srv n off row))) (tot + minL (rawL n ws (srv n off row))) := by
  have hr : (rawL n ws (srv n off row)).length = n := rawL_len
  refine ⟨fun ps c a b h hb => ?_, fun b hb => ?_⟩
  · rw [newOff_at (by omega), rawL_at hb]
    obtain ⟨ps0, c0, a0, k, rfl, h0, ha, hk, rfl⟩ := h.inv
    have h1 := raw_le (ws := ws) (b := b) (srv_mem.mpr ⟨a, k, ha, hk, rfl⟩ : (off.getD a 0 + k, a) ∈ srv n off row)
    have h2 := O.lo _ _ _ a h0 ha
    simp only at h1
    omega
  · rw [newOff_at (by omega), rawL_at hb]
    obtain ⟨q, hq, e⟩ := raw_has (ws := ws) (b := b) (srv_ne (off := off) hlen hs)
    obtain ⟨p, k, hp, hk, rfl⟩ := srv_mem.mp hq
    obtain ⟨ps, c, a, h0, e0⟩ := O.at_ p hp
    refine ⟨ps ++ [p], c + mat ws a p + k, p, .snoc h0 hp hk, ?_⟩
    simp only at e
    omega
/-- the sum of the rises is the wisest price -/
theorem Offs.wise (M : Met n ws) (hn : 0 < n) {rs : List (List (Option Int))} {tot : Int} (O : Offs n ws rs off tot) (K : OffOk n ws off) {ps : List Nat} {c : Int} {a : Nat} (h : Run n ws rs ps c a) (e : c = (val n ws rs).getD 0 0) : c = tot := by
  have ha := h.lt hn
  have h1 := O.lo _ _ _ a h ha
  have h2 := K.nn a ha
  rw [M.z a ha] at h1
  obtain ⟨b, hb, eb⟩ := K.zero
  obtain ⟨ps', c', a', h', e'⟩ := O.at_ b hb
  have h3 := M.nn a' b (h'.lt hn) hb
  have h4 := h'.ge hn
  omega
end
end Toy

namespace Toy
open PySem PySem.Spec PyProof.Rows L2
/-! things of the built-in kinds, whatever they are; all that belongs to them stands at addresses of A -/
inductive Dat (A : Addr → Prop) (H : Hp) : V → Prop
  | non : Dat A H .non
  | bl (b : Bool) : Dat A H (.bl b)
  | int (i : Int) : Dat A H (.int i)
  | str (z : Str) : Dat A H (.str z)
  | lst (a : Addr) (xs : List V) : A a → H a = some (.lst xs) → (∀ x ∈ xs, Dat A H x) → Dat A H (.ref a)
  | tup (a : Addr) (xs : List V) : A a → H a = some (.tup xs) → (∀ x ∈ xs, Dat A H x) → Dat A H (.ref a)
  | dK (a : Addr) (kvs : List (Key × V)) : A a → H a = some (.dK kvs) → (∀ q ∈ kvs, Dat A H q.2) → Dat A H (.ref a)
theorem Dat.mono {A B : Addr → Prop} {H H' : Hp} {v : V} (D : Dat A H v) (hk : ∀ a o, A a → H a = some o → H' a = some o) (hA : ∀ a, A a → (∃ o, H a = some o) → B a) : Dat B H' v := by
  induction D with
  | non => exact .non
  | bl b => exact .bl b
  | int i => exact .int i
  | str z => exact .str z
  | lst a xs h1 h2 _ ih => exact .lst a xs (hA a h1 ⟨_, h2⟩) (hk _ _ h1 h2) ih
  | tup a xs h1 h2 _ ih => exact .tup a xs (hA a h1 ⟨_, h2⟩) (hk _ _ h1 h2) ih
  | dK a kvs h1 h2 _ ih => exact .dK a kvs (hA a h1 ⟨_, h2⟩) (hk _ _ h1 h2) ih
theorem Dat.same {A : Addr → Prop} {H H' : Hp} {v : V} (D : Dat A H v) (k : Same H H') : Dat A H' v := D.mono (fun a o _ h => k a o h) fun _ h _ => h
theorem Dat.keep {d : Addr} {H H' : Hp} {v : V} (D : Dat (fun a => a ≠ d) H v) (k : Keep d H H') : Dat (fun a => a ≠ d) H' v := D.mono (fun a o n h => k a o n h) fun _ h _ => h
theorem Dat.ty {A : Addr → Prop} {H : Hp} {v : V} (D : Dat A H v) : ∃ n, tyN H v = some n := by
  cases D with
  | non => exact ⟨_, rfl⟩
  | bl b => exact ⟨_, rfl⟩
  | int i => exact ⟨_, rfl⟩
  | str z => exact ⟨_, rfl⟩
  | lst a xs h1 h2 _ => exact ⟨"list", by unfold tyN; simp only [h2]⟩
  | tup a xs h1 h2 _ => exact ⟨"tuple", ty_tup h2⟩
  | dK a kvs h1 h2 _ => exact ⟨"dict", ty_dK h2⟩
theorem Dat.item {A : Addr → Prop} {H : Hp} {a : Addr} {xs : List V} {x : V} (D : Dat A H (.ref a)) (h : H a = some (.tup xs) ∨ H a = some (.lst xs)) (m : x ∈ xs) : Dat A H x := by
  cases D with
  | lst a' ys h1 h2 h3 =>
    rcases h with h | h
    · rw [h2] at h; cases h
    · rw [h2] at h; cases h; exact h3 _ m
  | tup a' ys h1 h2 h3 =>
    rcases h with h | h
    · rw [h2] at h; cases h; exact h3 _ m
    · rw [h2] at h; cases h
  | dK a' ys h1 h2 h3 =>
    rcases h with h | h <;> (rw [h2] at h; cases h)
/-- a list or a tuple -/
def SeqAt' (H : Hp) (a : Addr) (ts : List V) : Prop := H a = some (.tup ts) ∨ H a = some (.lst ts)
theorem SeqAt'.same {H H' : Hp} {a : Addr} {ts : List V} (h : SeqAt' H a ts) (k : Same H H') : SeqAt' H' a ts := h.elim (fun q => .inl (k _ _ q)) fun q => .inr (k _ _ q)
theorem SeqAt'.fn {H : Hp} {a : Addr} {ts us : List V} (h : SeqAt' H a ts) (g : SeqAt' H a us) : ts = us := by
  rcases h with h | h <;> rcases g with g | g <;> (rw [h] at g; cases g) <;> rfl
theorem SeqAt'.ix {K : PySem.W.Frag} {H : Hp} {a : Addr} {ts : List V} {i : Int} {x : V} {Q : VK} (h : SeqAt' H a ts) (hx : atI ts i = some x) (q : Q x H) : rIxL K (.ref a) (.int i) H Q ∨ rIxT K (.ref a) (.int i) H Q :=
  h.elim (fun e => .inr ⟨a, ts, i, x, rfl, rfl, SqT.of e, hx, q⟩) fun e => .inl ⟨a, ts, i, x, rfl, rfl, SqL.of e, hx, q⟩
theorem SeqAt'.len {K : PySem.W.Frag} {H : Hp} {a : Addr} {ts : List V} (h : SeqAt' H a ts) : SqL K H a ts ∨ SqT K H a ts := h.elim (fun e => .inr (SqT.of e)) fun e => .inl (SqL.of e)
theorem SeqAt'.ty {H : Hp} {a : Addr} {ts : List V} (h : SeqAt' H a ts) : ∃ n, tyN H (.ref a) = some n ∧ (n == "list" || n == "tuple") = true := by
  rcases h with q | q
  · exact ⟨"tuple", ty_tup q, rfl⟩
  · exact ⟨"list", by unfold tyN; simp only [q], rfl⟩
theorem tyN_seq {H : Hp} {v : V} {n : String} (h : tyN H v = some n) (hn : (n == "list" || n == "tuple") = true) : ∃ a ts, v = .ref a ∧ SeqAt' H a ts := by
  cases v with
  | ref a =>
    unfold tyN at h
    cases e : H a with
    | none => simp only [e] at h; cases h
    | some o =>
      cases o with
      | tup xs => exact ⟨a, xs, rfl, .inl e⟩
      | lst xs => exact ⟨a, xs, rfl, .inr e⟩
      | _ => simp only [e] at h <;> cases h <;> simp at hn
  | _ => cases h <;> simp at hn
/-- lists of flags that tell of the items ahead -/
structure Told (p : Nat → Prop) (j : Nat) (bs : List Bool) : Prop where
  len : bs.length = j
  iff : ∀ i b, bs[i]? = some b → (b = true ↔ p i)
theorem Told.nil {p : Nat → Prop} : Told p 0 [] := ⟨rfl, fun i b h => by simp at h⟩
theorem Told.snoc {p : Nat → Prop} {j : Nat} {bs : List Bool} {b : Bool} (t : Told p j bs) (h : b = true ↔ p j) : Told p (j + 1) (bs ++ [b]) := by
  refine ⟨by rw [List.length_append, t.len]; rfl, fun i c hc => ?_⟩
  by_cases hi : i < bs.length
  · rw [List.getElem?_append_left hi] at hc; exact t.iff i c hc
  · rw [List.getElem?_append_right (by omega)] at hc
    have hz : i - bs.length = 0 := by
      have := (List.getElem?_eq_some_iff.mp hc).1
      simp at this; omega
    rw [hz] at hc
    have : c = b := by simpa using hc.symm
    subst this
    rw [show i = j by have := t.len; omega]; exact h
theorem Told.all {p : Nat → Prop} {j : Nat} {bs : List Bool} (t : Told p j bs) : bs.all id = true ↔ ∀ i, i < j → p i := by
  rw [List.all_eq_true]
  constructor
  · intro h i hi
    have hb : bs[i]? = some (bs[i]'(by rw [t.len]; exact hi)) := List.getElem?_eq_getElem _
    exact (t.iff i _ hb).mp (h _ (List.mem_of_getElem? hb))
  · intro h b hb
    obtain ⟨i, hi⟩ := List.getElem?_of_mem hb
    exact (t.iff i b hi).mpr (h i (by have := (List.getElem?_eq_some_iff.mp hi).1; have := t.len; omega))
theorem Told.any {p : Nat → Prop} {j : Nat} {bs : List Bool} (t : Told p j bs) : bs.any id = true ↔ ∃ i, i < j ∧ p i := by
  rw [List.any_eq_true]
  constructor
  · rintro ⟨b, hb, e⟩
    obtain ⟨i, hi⟩ := List.getElem?_of_mem hb
    exact ⟨i, by have := (List.getElem?_eq_some_iff.mp hi).1; have := t.len; omega, (t.iff i b hi).mp e⟩
  · rintro ⟨i, hi, h⟩
    have hb : bs[i]? = some (bs[i]'(by rw [t.len]; exact hi)) := List.getElem?_eq_getElem _
    exact ⟨_, List.mem_of_getElem? hb, (t.iff i _ hb).mpr h⟩
theorem bl_snoc (bs : List Bool) (b : Bool) : bs.map V.bl ++ [V.bl b] = (bs ++ [b]).map V.bl := by rw [List.map_append]; rfl
/-! a tuple of so many ints -/
def IsInts (H : Hp) (v : V) (m : Int) : Prop := ∃ ks, IntT H v ks ∧ (ks.length : Int) = m
theorem IsInts.same {H H' : Hp} {v : V} {m : Int} (h : IsInts H v m) (k : Same H H') : IsInts H' v m := by
  obtain ⟨ks, h1, h2⟩ := h
  exact ⟨ks, IntT.firm _ _ _ _ (same_tups k) h1, h2⟩
theorem isInts_of {H : Hp} {v : V} {m : Int} {xs : List V} {a : Addr} (e : v = .ref a) (h : H a = some (.tup xs)) : IsInts H v m ↔ ((xs.length : Int) = m ∧ ∀ i, i < xs.length → isI (xs.getD i .non) = true) := by
  subst e
  constructor
  · rintro ⟨ks, ⟨a', e, h'⟩, hl⟩
    cases e
    rw [h] at h'
    cases h'
    refine ⟨by rw [List.length_map]; exact hl, fun i hi => ?_⟩
    rw [List.length_map] at hi
    rw [List.getD_eq_getElem?_getD, List.getElem?_map, List.getElem?_eq_getElem hi]
    rfl
  · rintro ⟨h1, h2⟩
    have : ∀ xs : List V, (∀ i, i < xs.length → isI (xs.getD i .non) = true) → ∃ ks : List Int, xs = ks.map V.int := by
      intro xs
      induction xs with
      | nil => exact fun _ => ⟨[], rfl⟩
      | cons x t ih =>
        intro hx
        obtain ⟨ks, rfl⟩ := ih fun i hi => by
          have := hx (i + 1) (by rw [List.length_cons]; omega)
          simpa using this
        have h0 := hx 0 (by simp)
        cases x with
        | int i => exact ⟨i :: ks, rfl⟩
        | _ => simp [isI] at h0
    obtain ⟨ks, rfl⟩ := this xs h2
    exact ⟨ks, ⟨a, rfl, h⟩, by rw [← h1, List.length_map]⟩
theorem isInts_no {H : Hp} {v : V} {m : Int} (h : isTup H m v = false) : ¬ IsInts H v m := by
  rintro ⟨ks, ⟨a, rfl, h'⟩, hl⟩
  rw [tup_isTup h' (by rw [List.length_map]; exact hl)] at h
  cases h
theorem isTup_yes {H : Hp} {v : V} {m : Int} (h : isTup H m v = true) : ∃ a xs, v = .ref a ∧ H a = some (.tup xs) ∧ (xs.length : Int) = m := by
  cases v with
  | ref a =>
    unfold isTup at h
    cases e : H a with
    | none => simp only [e] at h; cases h
    | some o =>
      cases o with
      | tup xs => simp only [e] at h; exact ⟨a, xs, rfl, e, of_decide_eq_true h⟩
      | _ => simp only [e] at h; cases h
  | _ => cases h
theorem foldl_max_le : ∀ (ks : List Int) (k m : Int), ks.foldl max k ≤ m ↔ k ≤ m ∧ ∀ x ∈ ks, x ≤ m
  | [], k, m => by simp
  | x :: t, k, m => by
    rw [List.foldl_cons, foldl_max_le t (max k x) m]
    simp only [List.mem_cons, forall_eq_or_imp, Int.max_le]
    exact ⟨fun ⟨⟨a, b⟩, c⟩ => ⟨a, b, c⟩, fun ⟨a, b, c⟩ => ⟨⟨a, b⟩, c⟩⟩
theorem getD_at {α : Type} {xs : List α} {i : Nat} {x d : α} (h : xs[i]? = some x) : xs.getD i d = x := by rw [List.getD_eq_getElem?_getD, h]; rfl
theorem le_not {a b : Int} (h : ¬ a < b) : b ≤ a := by omega
/-! floors of rows -/
structure FlOk (n : Nat) (ws : List (List Int)) (rs : List (List (Option Int))) (hs : List (List Int)) : Prop where
  last : ∀ a, a < n → (hs.getD rs.length []).getD a 0 ≤ 0
  step : ∀ k row, rs[k]? = some row → ∀ a b p, a < n → b < n → row.getD b none = some p → (hs.getD k []).getD a 0 ≤ mat ws a b + p + (hs.getD (k + 1) []).getD b 0
def FloorIs (n : Int) (ws : List (List Int)) (rs : List (List (Option Int))) (H : Hp) (v : V) : Prop :=
  ∃ a ts hs, v = .ref a ∧ SeqAt' H a ts ∧ ts.length = rs.length + 1 ∧ Paired (fun z ks => IntT H z ks ∧ (ks.length : Int) = n) ts hs ∧ FlOk n.toNat ws rs hs
def headOf (H : Hp) (v : V) (x : Int) : Prop := ∃ (a : Addr) (ts : List V) (b : Addr) (ks : List Int), v = .ref a ∧ SeqAt' H a ts ∧ ts[0]? = some (.ref b) ∧ H b = some (.tup (ks.map V.int)) ∧ ks.getD 0 0 = x
theorem headOf.fn {H : Hp} {v : V} {x y : Int} (h : headOf H v x) (g : headOf H v y) : x = y := by
  obtain ⟨a, ts, b, ks, rfl, h2, h3, h4, rfl⟩ := h
  obtain ⟨a', ts', b', ks', e, g2, g3, g4, rfl⟩ := g
  cases e
  obtain rfl := h2.fn g2
  rw [h3] at g3; cases g3
  rw [h4] at g4
  have : ks.map V.int = ks'.map V.int := by injection g4 with g4; injection g4
  have : ks = ks' := by
    have inj : ∀ xs ys : List Int, xs.map V.int = ys.map V.int → xs = ys := by
      intro xs
      induction xs with
      | nil => intro ys h; cases ys with | nil => rfl | cons y t => cases h
      | cons x t ih =>
        intro ys h
        cases ys with
        | nil => cases h
        | cons y u =>
          rw [List.map_cons, List.map_cons] at h
          injection h with h1 h2
          injection h1 with h1
          rw [h1, ih u h2]
    exact inj _ _ this
  rw [this]
theorem paired_ints {H : Hp} {n : Int} : ∀ {ts : List V}, (∀ i, i < ts.length → IsInts H (ts.getD i .non) n) → ∃ hs, Paired (fun z ks => IntT H z ks ∧ (ks.length : Int) = n) ts hs
  | [], _ => ⟨[], .nil⟩
  | z :: t, h => by
    obtain ⟨hs, hp⟩ := paired_ints (H := H) (n := n) (ts := t) fun i hi => by
      have := h (i + 1) (by rw [List.length_cons]; omega)
      simpa using this
    obtain ⟨ks, h1, h2⟩ := h 0 (by simp)
    exact ⟨ks :: hs, .cons ⟨by simpa using h1, h2⟩ hp⟩
theorem ceil_iff {n : Nat} {ws : List (List Int)} {row : List (Option Int)} {ah ks : List Int} (hne : ∀ a, chs n ws row ah a ≠ []) : (∀ a, a < n → ks.getD a 0 ≤ (ceil n ws row ah).getD a 0) ↔ ∀ a b p, a < n → b < n → row.getD b none = some p → ks.getD a 0 ≤ mat ws a b + p + ah.getD b 0 := by
  constructor
  · intro h a b p ha hb hp
    exact Int.le_trans (h a ha) (ceil_le ha hb hp)
  · intro h a ha
    rw [ceil_at ha]
    have hm := minL_mem (l := (chs n ws row ah a).map (·.1)) (by intro e; exact hne a (List.map_eq_nil_iff.mp e))
    obtain ⟨⟨x, y⟩, hq, hx⟩ := List.mem_map.mp hm
    obtain ⟨pp, k, hpp, hk, e⟩ := chs_mem.mp hq
    cases e
    have hx : mat ws a pp + k + ah.getD pp 0 = _ := hx
    rw [← hx]
    exact h a pp k ha hpp hk
/-! things as data -/
inductive DatP (A : Addr → Prop) (H : Hp) : V → PyData → Prop
  | non : DatP A H .non .none
  | bl (b : Bool) : DatP A H (.bl b) (.bool b)
  | int (i : Int) : DatP A H (.int i) (.int i)
  | str (z : Str) : DatP A H (.str z) (.str z)
  | lst (a : Addr) (xs : List V) (ds : List PyData) : A a → H a = some (.lst xs) → xs.length = ds.length → (∀ (i : Nat) x d, xs[i]? = some x → ds[i]? = some d → DatP A H x d) → DatP A H (.ref a) (.list ds)
  | tup (a : Addr) (xs : List V) (ds : List PyData) : A a → H a = some (.tup xs) → xs.length = ds.length → (∀ (i : Nat) x d, xs[i]? = some x → ds[i]? = some d → DatP A H x d) → DatP A H (.ref a) (.tuple ds)
theorem DatP.mono {A B : Addr → Prop} {H H' : Hp} {v : V} {d : PyData} (D : DatP A H v d) (hk : ∀ a o, A a → H a = some o → H' a = some o) (hA : ∀ a, A a → (∃ o, H a = some o) → B a) : DatP B H' v d := by
  induction D with
  | non => exact .non
  | bl b => exact .bl b
  | int i => exact .int i
  | str z => exact .str z
  | lst a xs ds h1 h2 h3 _ ih => exact .lst a xs ds (hA a h1 ⟨_, h2⟩) (hk _ _ h1 h2) h3 ih
  | tup a xs ds h1 h2 h3 _ ih => exact .tup a xs ds (hA a h1 ⟨_, h2⟩) (hk _ _ h1 h2) h3 ih
theorem DatP.same {A : Addr → Prop} {H H' : Hp} {v : V} {d : PyData} (D : DatP A H v d) (k : Same H H') : DatP A H' v d := D.mono (fun a o _ h => k a o h) fun _ h _ => h
theorem dpAll_of {K : PySem.W.Frag} {H : Hp} : ∀ {xs : List V} {ds : List PyData}, xs.length = ds.length → (∀ (i : Nat) x d, xs[i]? = some x → ds[i]? = some d → Dp K H x d) → DpAll K H xs ds
  | [], [], _, _ => .nil
  | [], _ :: _, h, _ => by simp at h
  | _ :: _, [], h, _ => by simp at h
  | x :: xs, d :: ds, h, f => .cons (f 0 x d rfl rfl) (dpAll_of (by simpa using h) fun i y e h1 h2 => f (i + 1) y e (by simpa using h1) (by simpa using h2))
theorem DatP.dp {K : PySem.W.Frag} {A : Addr → Prop} {H : Hp} {v : V} {d : PyData} (D : DatP A H v d) : Dp K H v d := by
  induction D with
  | non => exact .non
  | bl b => exact .bl b
  | int i => exact .int i
  | str z => exact .str z
  | lst a xs ds h1 h2 h3 _ ih => exact .lst (SqL.of h2) (dpAll_of h3 ih)
  | tup a xs ds h1 h2 h3 _ ih => exact .tup (SqT.of h2) (dpAll_of h3 ih)
theorem DatP.dat {A : Addr → Prop} {H : Hp} {v : V} {d : PyData} (D : DatP A H v d) : Dat A H v := by
  induction D with
  | non => exact .non
  | bl b => exact .bl b
  | int i => exact .int i
  | str z => exact .str z
  | lst a xs ds h1 h2 h3 _ ih =>
    refine .lst a xs h1 h2 fun x hx => ?_
    obtain ⟨i, hi⟩ := List.getElem?_of_mem hx
    have hl := (List.getElem?_eq_some_iff.mp hi).1
    exact ih i x _ hi (List.getElem?_eq_getElem (by omega))
  | tup a xs ds h1 h2 h3 _ ih =>
    refine .tup a xs h1 h2 fun x hx => ?_
    obtain ⟨i, hi⟩ := List.getElem?_of_mem hx
    have hl := (List.getElem?_eq_some_iff.mp hi).1
    exact ih i x _ hi (List.getElem?_eq_getElem (by omega))
theorem datP_one {A : Addr → Prop} {H : Hp} {a : Addr} {x : V} {d : PyData} (hA : A a) (h : H a = some (.lst [x])) (hx : DatP A H x d) : DatP A H (.ref a) (.list [d]) :=
  .lst a _ _ hA h rfl fun i y e h1 h2 => by
    match i with
    | 0 => cases h1; cases h2; exact hx
    | i + 1 => simp at h1
theorem datP_oneT {A : Addr → Prop} {H : Hp} {a : Addr} {x : V} {d : PyData} (hA : A a) (h : H a = some (.tup [x])) (hx : DatP A H x d) : DatP A H (.ref a) (.tuple [d]) :=
  .tup a _ _ hA h rfl fun i y e h1 h2 => by
    match i with
    | 0 => cases h1; cases h2; exact hx
    | i + 1 => simp at h1
/-- a thing that can be compared with itself: data without dicts, or a flat dict -/
def OddV (A : Addr → Prop) (H : Hp) (v : V) : Prop := (∃ d, DatP A H v d ∧ SeqAt.shaped d = true) ∨ ∃ (a : Addr) (kvs : List (Key × V)), v = .ref a ∧ A a ∧ H a = some (.dK kvs) ∧ (kvs.map (·.1)).Nodup ∧ ∀ p ∈ kvs, flatB p.2 = true ∧ Dat A H p.2
theorem OddV.mono {A B : Addr → Prop} {H H' : Hp} {v : V} (D : OddV A H v) (hk : ∀ a o, A a → H a = some o → H' a = some o) (hA : ∀ a, A a → (∃ o, H a = some o) → B a) : OddV B H' v := by
  rcases D with ⟨d, h1, h2⟩ | ⟨a, kvs, h1, h2, h3, h4, h5⟩
  · exact .inl ⟨d, h1.mono hk hA, h2⟩
  · exact .inr ⟨a, kvs, h1, hA a h2 ⟨_, h3⟩, hk _ _ h2 h3, h4, fun p hp => ⟨(h5 p hp).1, (h5 p hp).2.mono hk hA⟩⟩
theorem OddV.same {A : Addr → Prop} {H H' : Hp} {v : V} (D : OddV A H v) (k : Same H H') : OddV A H' v := D.mono (fun a o _ h => k a o h) fun _ h _ => h
theorem OddV.keep {d : Addr} {H H' : Hp} {v : V} (D : OddV (fun a => a ≠ d) H v) (k : Keep d H H') : OddV (fun a => a ≠ d) H' v := D.mono (fun a o n h => k a o n h) fun _ h _ => h
theorem OddV.dat {A : Addr → Prop} {H : Hp} {v : V} (D : OddV A H v) : Dat A H v := by
  rcases D with ⟨d, h1, h2⟩ | ⟨a, kvs, rfl, h2, h3, h4, h5⟩
  · exact h1.dat
  · exact .dK a kvs h2 h3 fun q hq => (h5 q hq).2
theorem shaped_int (i : Int) : SeqAt.shaped (.int i) = true := rfl
theorem shaped_bool (i : Bool) : SeqAt.shaped (.bool i) = true := rfl
theorem OddV.int {A : Addr → Prop} {H : Hp} (i : Int) : OddV A H (.int i) := .inl ⟨_, .int i, rfl⟩
theorem OddV.bl {A : Addr → Prop} {H : Hp} (i : Bool) : OddV A H (.bl i) := .inl ⟨_, .bl i, rfl⟩
theorem OddV.non {A : Addr → Prop} {H : Hp} : OddV A H .non := .inl ⟨_, .non, rfl⟩
theorem OddV.str {A : Addr → Prop} {H : Hp} {z : Str} (h : PyData.strOk z = true) : OddV A H (.str z) := .inl ⟨_, .str z, by
  show (PyData.canLay0 (.str z) && decide (PyData.depth (.str z) ≤ 64)) = true
  simp [PyData.canLay0, PyData.depth, h]⟩
end Toy

namespace Toy
/-! least ways by ways that come to no post twice: plain mathematics (ways are told backwards: the head is the end) -/
/-- a way that begins with l (told backwards) and goes on by posts not met yet -/
inductive Ext (n : Nat) : List Nat → List Nat → Prop
  | self (l : List Nat) : Ext n l l
  | step {l m : List Nat} {p : Nat} : p < n → ¬ p ∈ l → Ext n (p :: l) m → Ext n l m
theorem Ext.nodup {n : Nat} {l m : List Nat} (e : Ext n l m) (h : l.Nodup) : m.Nodup := by
  induction e with
  | self l => exact h
  | step hp hn _ ih => exact ih (List.nodup_cons.mpr ⟨hn, h⟩)
theorem Ext.lt {n : Nat} {l m : List Nat} (e : Ext n l m) (h : ∀ x ∈ l, x < n) : ∀ x ∈ m, x < n := by
  induction e with
  | self l => exact h
  | step hp hn _ ih => exact ih fun x hx => (List.mem_cons.mp hx).elim (fun q => by rw [q]; exact hp) (h x)
theorem Ext.last {n : Nat} {l m : List Nat} {i : Nat} (e : Ext n l m) (h : l.getLast? = some i) : m.getLast? = some i := by
  induction e with
  | self l => exact h
  | @step l m p hp hn _ ih =>
    refine ih ?_
    cases l with
    | nil => cases h
    | cons a t => rw [List.getLast?_cons_cons]; exact h
theorem Ext.ne {n : Nat} {l m : List Nat} (e : Ext n l m) (h : l ≠ []) : m ≠ [] := by
  induction e with
  | self l => exact h
  | step hp hn _ ih => exact ih (by simp)
/-- each simple way is met from its first post on -/
theorem ext_suffix {n : Nat} : ∀ (k l : List Nat), (k ++ l).Nodup → (∀ x ∈ k ++ l, x < n) → Ext n l (k ++ l)
  | [], l, _, _ => .self l
  | k :: ks, l, h, hlt => by
    -- the post that comes next is the last one of k :: ks
    have : ∀ (ks l : List Nat), (ks ++ l).Nodup → (∀ x ∈ ks ++ l, x < n) → Ext n l (ks ++ l) := by
      intro ks
      induction hL : ks.length generalizing ks with
      | zero =>
        intro l _ _
        have : ks = [] := List.length_eq_zero_iff.mp hL
        subst this
        exact .self l
      | succ m ih =>
        intro l h hlt
        have hne : ks ≠ [] := by intro e; subst e; cases hL
        have e : ks = ks.dropLast ++ [ks.getLast hne] := (List.dropLast_concat_getLast hne).symm
        have e2 : ks ++ l = ks.dropLast ++ (ks.getLast hne :: l) := by
          conv => lhs; rw [e]
          rw [List.append_assoc]; rfl
        rw [e2] at h hlt ⊢
        have hn : ¬ ks.getLast hne ∈ l := by
          have := (List.nodup_append.mp h).2.1
          exact (List.nodup_cons.mp this).1
        exact .step (hlt _ (by simp)) hn (ih ks.dropLast (by rw [List.length_dropLast]; omega) _ h hlt)
    exact this (k :: ks) l h hlt
theorem simple {n : Nat} {R : Nat → Nat → Int} (h : ∀ i j, i < n → j < n → 0 ≤ R i j) {i j : Nat} : ∀ (k : Nat) (l : List Nat), l.length ≤ k → Way n i j l → ∃ l', Way n i j l' ∧ l'.Nodup ∧ rc R l' ≤ rc R l
  | 0, l, hk, w => by
    cases l with
    | nil => cases w.hd
    | cons a t => simp at hk
  | k + 1, l, hk, w => by
    by_cases nd : l.Nodup
    · exact ⟨l, w, nd, Int.le_refl _⟩
    · obtain ⟨a, x, b, c, rfl⟩ := dup l nd
      have w' : Way n i j (a ++ x :: c) := by
        refine ⟨?_, ?_, fun y hy => w.lt y ?_⟩
        · have := w.hd
          cases a with
          | nil => exact this
          | cons a0 at' => exact this
        · have hl := w.la
          rw [List.getLast?_append] at hl ⊢
          have e : (x :: (b ++ x :: c)).getLast? = (x :: c).getLast? := by
            rw [show x :: (b ++ x :: c) = (x :: b) ++ x :: c from rfl, List.getLast?_append]
            cases hq : (x :: c).getLast? with
            | none => simp at hq
            | some y => rfl
          rw [e] at hl; exact hl
        · rcases List.mem_append.mp hy with q | q
          · exact List.mem_append_left _ q
          · refine List.mem_append_right _ ?_
            rcases List.mem_cons.mp q with q | q
            · rw [q]; exact List.mem_cons_self
            · exact List.mem_cons_of_mem _ (List.mem_append_right _ (List.mem_cons_of_mem _ q))
      have hr : rc R (a ++ x :: c) ≤ rc R (a ++ x :: (b ++ x :: c)) := by
        rw [rc_app R x c a, rc_app R x (b ++ x :: c) a]
        have e : rc R (x :: (b ++ x :: c)) = rc R ((x :: b) ++ x :: c) := rfl
        rw [e, rc_app R x c (x :: b)]
        have := rc_nn h ((x :: b) ++ [x]) (fun y hy => w.lt y (by
          refine List.mem_append_right _ ?_
          rcases List.mem_append.mp hy with q | q
          · rcases List.mem_cons.mp q with q | q
            · rw [q]; exact List.mem_cons_self
            · exact List.mem_cons_of_mem _ (List.mem_append_left _ q)
          · rw [List.mem_singleton.mp q]; exact List.mem_cons_self))
        omega
      obtain ⟨l', w1, nd1, r1⟩ := simple h k (a ++ x :: c) (by simp at hk ⊢; omega) w'
      exact ⟨l', w1, nd1, Int.le_trans r1 hr⟩
/-- what the search from l on makes of the least numbers L: L' -/
structure Went (n : Nat) (R : Nat → Nat → Int) (l : List Nat) (L L' : Nat → Int) : Prop where
  le : ∀ b, L' b ≤ L b
  all : ∀ m b, Ext n l m → m.head? = some b → L' b ≤ rc R m
  has : ∀ b, L' b = L b ∨ ∃ m, Ext n l m ∧ m.head? = some b ∧ L' b = rc R m
/-- .. with only the first q posts tried as the next one -/
structure WentTo (n q : Nat) (R : Nat → Nat → Int) (l : List Nat) (L L' : Nat → Int) : Prop where
  le : ∀ b, L' b ≤ L b
  self : ∀ b, l.head? = some b → L' b ≤ rc R l
  all : ∀ p m b, p < q → ¬ p ∈ l → Ext n (p :: l) m → m.head? = some b → L' b ≤ rc R m
  has : ∀ b, L' b = L b ∨ ∃ m, Ext n l m ∧ m.head? = some b ∧ L' b = rc R m
theorem WentTo.start {n : Nat} {R : Nat → Nat → Int} {a : Nat} {t : List Nat} {L : Nat → Int} : WentTo n 0 R (a :: t) L (fun b => if b = a then min (L a) (rc R (a :: t)) else L b) := by
  refine ⟨fun b => ?_, fun b hb => ?_, fun p m b hp => absurd hp (Nat.not_lt_zero _), fun b => ?_⟩
  · split
    · subst_vars; omega
    · omega
  · have : a = b := by simpa using hb
    subst this
    rw [if_pos rfl]; omega
  · split
    · rename_i e
      subst e
      by_cases h : L b ≤ rc R (b :: t)
      · exact .inl (by omega)
      · exact .inr ⟨_, .self _, rfl, by omega⟩
    · exact .inl rfl
theorem WentTo.skip {n q : Nat} {R : Nat → Nat → Int} {l : List Nat} {L L' : Nat → Int} (w : WentTo n q R l L L') (h : q ∈ l) : WentTo n (q + 1) R l L L' :=
  ⟨w.le, w.self, fun p m b hp hn => by
    by_cases e : p = q
    · subst e; exact absurd h hn
    · exact w.all p m b (by omega) hn, w.has⟩
theorem WentTo.step {n q : Nat} {R : Nat → Nat → Int} {l : List Nat} {L L' L2 : Nat → Int} (w : WentTo n q R l L L') (hq : q < n) (hn : ¬ q ∈ l) (g : Went n R (q :: l) L' L2) : WentTo n (q + 1) R l L L2 := by
  refine ⟨fun b => Int.le_trans (g.le b) (w.le b), fun b hb => Int.le_trans (g.le b) (w.self b hb), fun p m b hp hnp e hb => ?_, fun b => ?_⟩
  · by_cases h : p = q
    · subst h; exact g.all m b e hb
    · exact Int.le_trans (g.le b) (w.all p m b (by omega) hnp e hb)
  · rcases g.has b with h | ⟨m, e, hb, h⟩
    · rw [h]; exact w.has b
    · exact .inr ⟨m, .step hq hn e, hb, h⟩
theorem WentTo.done {n : Nat} {R : Nat → Nat → Int} {l : List Nat} {L L' : Nat → Int} (w : WentTo n n R l L L') : Went n R l L L' := by
  refine ⟨w.le, fun m b e hb => ?_, w.has⟩
  cases e with
  | self => exact w.self b hb
  | step hp hn e' => exact w.all _ m b hp hn e' hb
/-- the search from one post on finds the least ways -/
theorem Went.least {n : Nat} {R M : Nat → Nat → Int} {a : Nat} {L L' : Nat → Int} (w : Went n R [a] L L') (hR : ∀ i j, i < n → j < n → 0 ≤ R i j) (l : Least n R M) (ha : a < n) {b : Nat} (hb : b < n) (hL : R a b < L b) (h0 : 0 < L b) : L' b = M a b := by
  have up : L' b ≤ M a b := by
    obtain ⟨v, hv, e⟩ := l.has a b ha hb
    obtain ⟨v', hv', nd, r⟩ := simple hR v.length v (Nat.le_refl _) hv
    have hla := hv'.la
    have hne : v' ≠ [] := by intro z; subst z; cases hla
    have e2 : v' = v'.dropLast ++ [a] := by
      have := (List.dropLast_concat_getLast hne).symm
      have hg : v'.getLast? = some (v'.getLast hne) := List.getLast?_eq_some_getLast hne
      rw [hg] at hla
      rw [Option.some.inj hla] at this
      exact this
    have hx : Ext n [a] v' := by
      rw [e2] at nd ⊢
      exact ext_suffix _ _ nd (by rw [← e2]; exact hv'.lt)
    have := w.all v' b hx hv'.hd
    omega
  rcases w.has b with h | ⟨m, e, hm, h⟩
  · have : L' b ≤ rc R [b, a] ∨ b = a := by
      by_cases hab : b = a
      · exact .inr hab
      · exact .inl (w.all [b, a] b (.step hb (by simpa using hab) (.self _)) rfl)
    rcases this with q | q
    · have e2 : rc R [b, a] = R a b := by simp [rc]
      omega
    · subst q
      have := w.all [b] b (.self _) rfl
      have e2 : rc R [b] = 0 := rfl
      omega
  · have := l.le a b m ha hb ⟨hm, e.last rfl, e.lt (by intro x hx; rw [List.mem_singleton.mp hx]; exact ha)⟩
    omega
end Toy

namespace Toy
/-! least sums by loosening, in place: plain mathematics -/
def setL (L : Nat → Option Int) (b : Nat) (v : Int) : Nat → Option Int := fun c => if c = b then some v else L c
def Rl (n : Nat) (L0 L : Nat → Option Int) : Prop := ∀ b x, b < n → L0 b = some x → ∃ y, L b = some y ∧ y ≤ x
def Dn (n : Nat) (R : Nat → Nat → Int) (L0 L : Nat → Option Int) (a b : Nat) : Prop := ∀ x, L0 a = some x → ∃ y, L b = some y ∧ y ≤ x + R a b
/-- no number is less than lw says -/
def Snb (n : Nat) (lw : Nat → Int) (L : Nat → Option Int) : Prop := ∀ b x, b < n → L b = some x → lw b ≤ x
def Up (n : Nat) (R : Nat → Nat → Int) (cost : Nat → Option Int) (k : Nat) (L : Nat → Option Int) : Prop := ∀ i j l c, l.length ≤ k + 1 → Way n i j l → cost i = some c → ∃ y, L j = some y ∧ y ≤ c + rc R l
section
variable {n : Nat} {R : Nat → Nat → Int} {L0 L L' : Nat → Option Int} {cost : Nat → Option Int} {lw : Nat → Int}
theorem Rl.refl : Rl n L L := fun b x _ h => ⟨x, h, Int.le_refl _⟩
theorem Rl.trans (h : Rl n L0 L) (g : Rl n L L') : Rl n L0 L' := fun b x hb e => by
  obtain ⟨y, e1, h1⟩ := h b x hb e
  obtain ⟨z, e2, h2⟩ := g b y hb e1
  exact ⟨z, e2, Int.le_trans h2 h1⟩
theorem Rl.set {b : Nat} {v : Int} (h : ∀ y, L b = some y → v ≤ y) : Rl n L (setL L b v) := fun c x _ e => by
  unfold setL
  by_cases hc : c = b
  · subst hc
    exact ⟨v, by rw [if_pos rfl], h x e⟩
  · exact ⟨x, by rw [if_neg hc]; exact e, Int.le_refl _⟩
theorem Dn.mono {a b : Nat} (hb : b < n) (g : Rl n L L') (d : Dn n R L0 L a b) : Dn n R L0 L' a b := fun x e => by
  obtain ⟨y, e1, h1⟩ := d x e
  obtain ⟨z, e2, h2⟩ := g b y hb e1
  exact ⟨z, e2, Int.le_trans h2 h1⟩
theorem Dn.now {a b : Nat} (ha : a < n) (g : Rl n L0 L) (h : Dn n R L L' a b) : Dn n R L0 L' a b := fun x e => by
  obtain ⟨x', e1, h1⟩ := g a x ha e
  obtain ⟨y, e2, h2⟩ := h x' e1
  exact ⟨y, e2, by omega⟩
theorem Snb.set {a b : Nat} {x : Int} (s : Snb n lw L) (ha : a < n) (hx : L a = some x) (tri : lw b ≤ lw a + R a b) : Snb n lw (setL L b (x + R a b)) := fun c y hc e => by
  unfold setL at e
  by_cases hcb : c = b
  · rw [if_pos hcb] at e
    cases e
    subst hcb
    have := s a x ha hx
    omega
  · rw [if_neg hcb] at e
    exact s c y hc e
theorem Up.zero : Up n R cost 0 cost := fun i j l c hl w hc => by
  match l, hl, w with
  | [x], _, w =>
    have h1 := w.hd
    have h2 := w.la
    simp at h1 h2
    subst h1; subst h2
    exact ⟨c, hc, by simp [rc]⟩
  | [], _, w => cases w.hd
  | _ :: _ :: _, hl, _ => simp at hl
theorem Up.step {k : Nat} (u : Up n R cost k L0) (g : Rl n L0 L) (d : ∀ a b, a < n → b < n → Dn n R L0 L a b) : Up n R cost (k + 1) L := fun i j l c hl w hc => by
  match l, hl, w with
  | [], _, w => cases w.hd
  | [x], _, w =>
    obtain ⟨y, e, h⟩ := u i j [x] c (by simp) w hc
    obtain ⟨z, e2, h2⟩ := g j y (w.lt j (by have := w.hd; simp at this; simp [this])) e
    exact ⟨z, e2, Int.le_trans h2 h⟩
  | q :: p :: t, hl, w =>
    have hq : q = j := by have := w.hd; simpa using this
    subst hq
    have w' : Way n i p (p :: t) := ⟨rfl, by have := w.la; rwa [List.getLast?_cons_cons] at this, fun x hx => w.lt x (List.mem_cons_of_mem _ hx)⟩
    obtain ⟨y, e, h⟩ := u i p (p :: t) c (by simp at hl ⊢; omega) w' hc
    obtain ⟨z, e2, h2⟩ := d p q (w.lt p (by simp)) (w.lt q (by simp)) y e
    refine ⟨z, e2, ?_⟩
    simp only [rc]
    omega
end
/-- what is to be found: the prices of the request behind the offsets -/
def costF (off : List Int) (row : List (Option Int)) (a : Nat) : Option Int := match row.getD a none with
  | some k => some (off.getD a 0 + k)
  | none => none
theorem costF_some {off : List Int} {row : List (Option Int)} {a : Nat} {k : Int} (h : row.getD a none = some k) : costF off row a = some (off.getD a 0 + k) := by unfold costF; rw [h]
theorem costF_none {off : List Int} {row : List (Option Int)} {a : Nat} (h : row.getD a none = none) : costF off row a = none := by unfold costF; rw [h]
section
variable {n : Nat} {R : Nat → Nat → Int} {ws : List (List Int)} {off : List Int} {row : List (Option Int)} {L : Nat → Option Int}
theorem raw_tri (M : Met n ws) (hne : srv n off row ≠ []) {a b : Nat} (ha : a < n) (hb : b < n) : rawAt ws (srv n off row) b ≤ rawAt ws (srv n off row) a + mat ws a b := by
  obtain ⟨q, hq, e⟩ := raw_has (ws := ws) (b := a) hne
  obtain ⟨p, k, hp, _, rfl⟩ := srv_mem.mp hq
  have h1 := raw_le (ws := ws) (b := b) hq
  have h2 := M.tri p a b hp ha hb
  simp only at e h1
  omega
theorem Snb.start (M : Met n ws) : Snb n (rawAt ws (srv n off row)) (costF off row) := fun b x hb e => by
  unfold costF at e
  cases hc : row.getD b none with
  | none => rw [hc] at e; cases e
  | some k =>
    rw [hc] at e
    cases e
    have h := raw_le (ws := ws) (b := b) (srv_mem.mpr ⟨b, k, hb, hc, rfl⟩ : (off.getD b 0 + k, b) ∈ srv n off row)
    have := M.z b hb
    simp only at h
    omega
theorem Up.fin (lst : Least n R (mat ws)) (hR : ∀ i j, i < n → j < n → 0 ≤ R i j) (hne : srv n off row ≠ []) (u : Up n R (costF off row) n L) (s : Snb n (rawAt ws (srv n off row)) L) {b : Nat} (hb : b < n) : L b = some (rawAt ws (srv n off row) b) := by
  obtain ⟨q, hq, e⟩ := raw_has (ws := ws) (b := b) hne
  obtain ⟨p, k, hp, hk, rfl⟩ := srv_mem.mp hq
  obtain ⟨l, w, er⟩ := lst.has p b hp hb
  obtain ⟨l', w', nd, hr⟩ := simple hR l.length l (Nat.le_refl _) w
  have hlen : l'.length ≤ n := pigeon n l' w'.lt nd
  obtain ⟨y, ey, hy⟩ := u p b l' _ (by omega) w' (costF_some hk)
  have h2 := s b y hb ey
  have hyr : y = rawAt ws (srv n off row) b := by
    simp only at e
    omega
  rw [ey, hyr]
end
end Toy

namespace Toy
open PySem PySem.Spec PyProof.Rows L2
/-! own exception classes with an __init__ of their own: what the written part says of them, as one flag -/
def isNew : List (Option Value) → Bool
  | _ :: _ :: _ :: _ :: some (.builtin m) :: _ :: [] => decide (m = "ValueError.__new__")
  | _ => false
def ownMro (C : Addr) : List Value → Bool
  | .ref D :: l => decide (D = C) && PySem.HandSPX.refsVE l
  | _ => false
def isTy : Value → Bool
  | .type t => decide (t = "type")
  | _ => false
def shapeB (C : Addr) (o : Obj) : Bool := isTy o.cls && isNew o.slots.toList && match o.data with
  | .cls c => ownMro C c.mro && c.hasDict && !c.hasDel
  | _ => false
theorem isNew_ok {l : List (Option Value)} (h : isNew l = true) : ∃ u v x y z, l = [u, v, x, y, some (.builtin "ValueError.__new__"), z] := by
  match l, h with
  | [u, v, x, y, some (.builtin m), z], h => exact ⟨u, v, x, y, z, by rw [of_decide_eq_true h]⟩
theorem ownMro_ok {C : Addr} {l : List Value} (h : ownMro C l = true) : ∃ r, l = .ref C :: r ∧ PySem.HandSPX.refsVE r = true := by
  match l, h with
  | .ref D :: r, h =>
    have g := Bool.and_eq_true_iff.mp h
    exact ⟨r, by rw [of_decide_eq_true g.1], g.2⟩
theorem isTy_ok {v : Value} (h : isTy v = true) : v = .type "type" := by
  match v, h with
  | .type t, h => rw [of_decide_eq_true h]
theorem shape_ok {C : Addr} {o : Obj} (h : shapeB C o = true) : ∃ nm q N bs bm sn sub ab col dd u v x y z, o = excClassObj nm q C N bs bm true sn sub ab col dd u v x y z "ValueError.__new__" ∧ PySem.HandSPX.refsVE bm = true := by
  obtain ⟨cl, dd, dt, ⟨sl⟩⟩ := o
  unfold shapeB at h
  have g := Bool.and_eq_true_iff.mp h
  have g1 := Bool.and_eq_true_iff.mp g.1
  have hc : cl = .type "type" := isTy_ok g1.1
  obtain ⟨u, v, x, y, z, hs⟩ := isNew_ok g1.2
  have hs : sl = _ := hs
  cases dt with
  | cls c =>
    have g2 := Bool.and_eq_true_iff.mp g.2
    have g3 := Bool.and_eq_true_iff.mp g2.1
    obtain ⟨nm, bs, mro, N, q, hd, sn, sub, ab, col, del⟩ := c
    obtain ⟨bm, hm, hr⟩ := ownMro_ok g3.1
    have hm : mro = _ := hm
    have hd' : hd = true := g3.2
    have hl : del = false := by
      have e : (!del) = true := g2.2
      cases del <;> first | rfl | cases e
    subst hm hc hs hd' hl
    exact ⟨nm, q, N, bs, bm, sn, sub, ab, col, dd, u, v, x, y, z, rfl, hr⟩
  | _ => cases g.2
def oexB (K : PySem.W.Frag) (C : Addr) : Bool := (K.lookup C).any (shapeB C) && xfB K C && PySem.W.keepIn K (.ref C) && decide (PySem.W.typeIn K (.ref C) = some (.type "type")) && decide (PySem.W.findIn K (.ref C) "__setattr__" = some (some (.builtin "object.__setattr__")))
theorem oexB_ok {K : PySem.W.Frag} {C : Addr} (h : oexB K C = true) : OexC K C ∧ XfC K C := by
  have g1 := Bool.and_eq_true_iff.mp h
  have g2 := Bool.and_eq_true_iff.mp g1.1
  have g3 := Bool.and_eq_true_iff.mp g2.1
  have g4 := Bool.and_eq_true_iff.mp g3.1
  have x := xfB_ok g4.2
  obtain ⟨o, ho, hs⟩ := Option.any_eq_true _ _ |>.mp g4.1
  obtain ⟨nm, q, N, bs, bm, sn, sub, ab, col, dd, u, v, w, y, z, rfl, hr⟩ := shape_ok hs
  exact ⟨⟨⟨nm, q, N, bs, bm, sn, sub, ab, col, dd, u, v, w, y, z, ho, hr⟩, of_decide_eq_true g1.2, x.exC, of_decide_eq_true g2.2, g3.2⟩, x⟩
/-! a head that asks one more flag of the written part -/
abbrev AlX : Type := He.AlD × Bool
def obsX (fa : List He.Fa) (fn : List He.DefD) (b : PySem.W.Frag → Bool) (K : PySem.W.Frag) : AlX := (He.obsD fa fn K, b K)
def obsXG (n : Nat) (fa : List He.Fa) (fn : List He.DefD) (b : PySem.W.Frag → Bool) (g : Addr → Option Obj) : AlX := obsX fa fn b (He.frG g (He.asD g n))
def hookX (n : Nat) (fa : List He.Fa) (fn : List He.DefD) (b : PySem.W.Frag → Bool) : PySem.W.Hook where
  α := AlX
  obs := fun s => obsXG n fa fn b s.heap.get?
  val := fun _ => (He.valD fn, true)
  says := fun _ h => ∃ K : PySem.W.Frag, K.In h ∧ He.SaysD fa fn K ∧ b K = true
  of := fun _ _ e => ⟨_, He.frG_in, congrArg Prod.fst e, congrArg Prod.snd e⟩
  keeps := fun _ _ _ ⟨K, hK, c, e⟩ k => ⟨K, PySem.W.Frag.In.keeps hK k, c, e⟩
theorem obsXG_eq {n : Nat} {fa : List He.Fa} {fn : List He.DefD} {b : PySem.W.Frag → Bool} {g : Addr → Option Obj} {s : Shared} (h : ∀ a, g a = s.heap.get? a) : obsXG n fa fn b g = (hookX n fa fn b).obs s := by
  have e : g = s.heap.get? := funext h
  rw [e] <;> rfl
/-! defs and methods that may raise -/
section
variable {P : Program} {w : World} {K : PySem.W.Frag} {mg : Str → Option Value} {base : Heap}
def OkX (P : Program) (w : World) (K : PySem.W.Frag) (mg : Str → Option Value) (base : Heap) (k : Nat) (x : Str) (ps : List Str) (sp : Sp) : Prop :=
  ∃ (f : Addr) (fd : FuncData), mg x = some (.ref f) ∧ PySem.W.keepIn K (.ref f) = true ∧ Binds K fd ps [] ∧ FnOk P w K mg base (L2.CX P w) k f fd ps sp
theorem okX_of {x : Str} {st : Stmt} {N ps : List Str} {k : Nat} {sp : Sp} (D : DefAt K mg x st ps) (S : FnScope N ps (defScope st)) (len : ∀ vs H Q E, sp vs H Q E → vs.length = ps.length)
    (hbody : ∀ (f : Addr) (cdv : Value) (A : Around) (outer : List Env) (s : Shared) (H : Hp) (vs : List V) (Q : VK) (E : XK), Room k (A.deeper (envOfC x (defScope st) s.heap.objs.size f cdv)) → sp vs H Q E →
      ∃ t, PSs (cxOf (L2.CX P w) P w K mg base N x (defScope st) f cdv A outer s H E) (defBody st) t ∧ t { nx := fun _ H' => Q .non H', rt := Q } (start N vs) H) : OkX P w K mg base (k + 1) x ps sp := by
  obtain ⟨f, fd, m, F, b⟩ := D.h
  exact ⟨f, fd, m, F.kp, b, F.okX S len fun cdv A outer s H vs Q E hr h => hbody f cdv A outer s H vs Q E hr h⟩
theorem okMX_of {m qual : Str} {C : Addr} {st : Stmt} {N ps : List Str} {k : Nat} {sp : Sp} (D : MethAt K C m qual st ps) (S : FnScope N ps (defScope st)) (len : ∀ vs H Q E, sp vs H Q E → vs.length = ps.length)
    (hbody : ∀ (f : Addr) (cdv : Value) (A : Around) (outer : List Env) (s : Shared) (H : Hp) (vs : List V) (Q : VK) (E : XK), Room k (A.deeper (envOfC qual (defScope st) s.heap.objs.size f cdv)) → sp vs H Q E →
      ∃ t, PSs (cxOf (L2.CX P w) P w K mg base N qual (defScope st) f cdv A outer s H E) (defBody st) t ∧ t { nx := fun _ H' => Q .non H', rt := Q } (start N vs) H) : OkM P w K mg base (L2.CX P w) (k + 1) C m ps sp := by
  obtain ⟨f, fd, M, F, b⟩ := D.h
  exact ⟨f, fd, M, b, F.okX S len fun cdv A outer s H vs Q E hr h => hbody f cdv A outer s H vs Q E hr h⟩
/-- an error class with an __init__ that keeps its one argument -/
structure ExcAt (K : PySem.W.Frag) (mg : Str → Option Value) (x : Str) (C : Addr) (f : Str) (st : Stmt) : Prop where
  mg : mg x = some (.ref C)
  T : OexC K C
  X : XfC K C
  no : PySem.W.findIn K (.ref C) f = some none
  h : ∃ (fI : Addr) (fd : FuncData) (q : Str), PySem.W.findIn K (.ref C) "__init__" = some (some (.ref fI)) ∧ PySem.W.typeIn K (.ref fI) = some (.type "function") ∧ Fun K "__init__" q st fI fd ∧ Binds K fd ["self", f] []
def spInitF (K : PySem.W.Frag) (f : Str) : Sp := fun vs H Q _ => ∃ (a C : Addr) (v : V), vs = [.ref a, v] ∧ OexC K C ∧ PySem.W.findIn K (.ref C) f = some none ∧ H a = some (exo a C none) ∧
  ∀ dx, H dx = none → dx ≠ a → Q .non (upd (upd H dx (exd dx [(f, v)])) a (exo a C (some dx)))
theorem init_raise {K : PySem.W.Frag} {f : Str} {H : Hp} {v : V} {C : Addr} {Q : XK} (T : OexC K C) (hno : PySem.W.findIn K (.ref C) f = some none) (h : ∀ d H', Same H H' → H d = none → H' d = some (.xd [(f, v)]) → Q (.ref C) (some d) H') :
    ∀ a, H a = none → spInitF K f (.ref a :: ([v] ++ [])) (upd H a (exo a C none)) (fun v' H2 => v' = .non ∧ ∃ (d : Addr) (fs : List (Str × V)), H2 a = some (exo a C (some d)) ∧ H2 d = some (exd d fs) ∧ H d = none ∧ Q (.ref C) (some d) (upd (L2.del H2 a) d (.xd fs))) (fun _ _ _ => False) := by
  intro a na
  refine ⟨a, C, v, rfl, T, hno, upd_same, fun dx ndx ne => ⟨rfl, dx, _, upd_same, ?_, ?_, h dx _ ?_ ?_ upd_same⟩⟩
  · rw [upd_ne ne]; exact upd_same
  · rw [upd_ne ne] at ndx; exact ndx
  · intro b o e
    have hba : b ≠ a := ne_of_none e na
    have hbd : b ≠ dx := by
      rw [upd_ne ne] at ndx; exact ne_of_none e ndx
    rw [upd_ne hbd, del_ne hba, upd_ne hba, upd_ne hbd, upd_ne hba]
    exact e
  · rw [upd_ne ne] at ndx; exact ndx
end
/-! a method's call in a try's body: what it may let out hangs on the slots -/
def tMethA (C : Addr) (m : Str) (sp : Sp) (E : L2.St → XK) (to : TE) (t : TA) : TE := fun σ H Q => to σ H fun y G => ∃ p x l, y = .ref p ∧ G p = some (.ins C x l) ∧ l.lookup m = none ∧ t σ G fun ys G2 => sp (y :: ys) G2 Q (E σ)
/-- how the call of a method is gone through -/
def CallOfMeth (X : Cx) (o : Expr) (m : Str) (es : List Expr) (ap cp : Pos) (pl : Sem Bool) : Prop :=
  eval (.Call (.Attribute o m ap) es [] cp) X.env = (do let y ← eval o X.env; standAt ap.atName; let (g, l) ← holding [y] (getMethod y m pl); callWith cp g l (backTo cp (starEach es X.env)) (backToKw cp (keywordEach [] X.env)))
theorem pe_methA {X : Cx} {CX : CXT} {k : Nat} {f C : Addr} {fd : FuncData} {ps : List Str} {sp : Sp} {E : L2.St → XK} {m : Str} {ap cp : Pos} {o e : Expr} {es : List Expr} {to : TE} {t : TA} {pl : Sem Bool}
    (ho : PE X o to) (cl : Cls X.K C) (me : Meth X.K C m f) (F : FnOk X.prog X.w X.K X.mg X.base CX k f fd ps sp) (rm : Room k X.A) (bi : Binds X.K fd ps []) (pa : ∀ σ, PassesAt CX X σ (E σ)) (ha : PA X (e :: es) t)
    (h1 : starEach (e :: es) X.env = (false, eval e X.env) :: starEach es X.env := by rfl) (h2 : (backTo cp (starEach es X.env)).any (·.1) = false := by rfl) (h3 : CallOfMeth X o m (e :: es) ap cp pl := by rfl) :
    PE X (.Call (.Attribute o m ap) (e :: es) [] cp) (tMethA C m sp E to t) := .mk fun pins s σ H Q I h => by
  apply PySem.W.methodCall_KW (pl := pl) _ h3
  apply thn (ho.run pins s σ H _ I h)
  rintro u s1 ⟨y, G, I1, ry, p, x, l, rfl, hp, hl, q⟩
  cases (show u = Value.ref p from ry)
  apply getmeth_ok I1 hp cl me hl
  apply PySem.W.callWith_K (first := [.ref p]) (h₀ := X.base) I.ok.mod.kin me.kp _ h1 h2
  apply thn (ha.run cp pins s1 σ G _ I1 q)
  rintro us s2 ⟨ys, G2, I2, rs, q2⟩
  exact ⟨I2.kIn, run_fnS (vs := .ref p :: ys) F rm bi (pa σ) I2 (.cons rfl rs) q2⟩
/-! try with several clauses, with a name or without -/
abbrev Clause := Value × Option Nat × (Addr → Value → Option Addr → TS)
def wManyA (K : PySem.W.Frag) (Wout : WX) (D : Ends) : List Clause → WX
  | [] => Wout
  | (c, none, ts) :: r => fun cls d σ H => ∃ b, PySem.W.exmOne K cls c = some b ∧ (b = true → ∀ a, H a = none → ts a cls d D σ H) ∧ (b = false → wManyA K Wout D r cls d σ H)
  | (c, some i, ts) :: r => fun cls d σ H => ∃ b, PySem.W.exmOne K cls c = some b ∧
      (b = true → ∀ a, H a = none → ts a cls d { nx := fun σ' H' => D.nx (σ'.set i none) H', rt := D.rt, bk := fun σ' H' => D.bk (σ'.set i none) H', ct := fun σ' H' => D.ct (σ'.set i none) H' } (σ.set i (some (.ref a))) H) ∧
      (b = false → wManyA K Wout D r cls d σ H)
inductive HdsA (X : Cx) : List ExceptHandler → List Clause → Prop
  | nil : HdsA X [] []
  | cons {x : Str} {c : Value} {ts : Addr → Value → Option Addr → TS} {b₀ : Stmt} {suite : List Stmt} {np pos' : Pos} {hds : List ExceptHandler} {l : List Clause} (hc : Names X x c)
      (hsu : ∀ (a : Addr) (oe : Obj) (cls : Value) (d : Option Addr) (pn : List (Addr × Obj)), Zc cls d oe → (∃ vs, oe.data = .fields vs) → PSs (X.suite a ((a, oe) :: pn)) (b₀ :: suite) (ts a cls d)) (r : HdsA X hds l) :
      HdsA X (.ExceptHandler (some (.Name x np)) none (b₀ :: suite) pos' :: hds) ((c, none, ts) :: l)
  | consA {x n : Str} {c : Value} {i : Nat} {ts : Addr → Value → Option Addr → TS} {b₀ : Stmt} {suite : List Stmt} {np pos' : Pos} {hds : List ExceptHandler} {l : List Clause} (hi : X.N[i]? = some n) (hln : X.env.kindOf n = some .local) (hc : Names X x c)
      (hsu : ∀ (a : Addr) (oe : Obj) (cls : Value) (d : Option Addr) (pn : List (Addr × Obj)), Zc cls d oe → (∃ vs, oe.data = .fields vs) → PSs (X.suite a ((a, oe) :: pn)) (b₀ :: suite) (ts a cls d)) (r : HdsA X hds l) :
      HdsA X (.ExceptHandler (some (.Name x np)) (some n) (b₀ :: suite) pos' :: hds) ((c, some i, ts) :: l)
section
variable {X : Cx} {pins : List (Addr × Obj)} {σ : L2.St} {H : Hp} {a : Addr} {cls : Value} {d : Option Addr} {B : Heap} {sI s : Shared}
/-- an error at a, of the class cls and with the dict d, has come down in X's def: sI is the state without it -/
structure Ground (X : Cx) (pins : List (Addr × Obj)) (σ : L2.St) (H : Hp) (a : Addr) (cls : Value) (d : Option Addr) (B : Heap) (sI s : Shared) : Prop where
  inv : Inv X pins σ H sI
  old : ∀ b o, sI.heap.get? b = some o → b ∉ frs X.stack → B.get? b = some o
  fly : HandSPX.FlyingZ B (X.env :: X.outer) a (Zc cls d) s.heap
  up : sI.heap.UpToSlots s.heap
  free : H a = none
  os : s.os = sI.os
  bare : AllBare s.gens
theorem Ground.now (g : Ground X pins σ H a cls d B sI s) : Inv X pins σ H s := g.inv.landed g.old g.fly.1 g.up g.os g.bare
theorem Ground.on (g : Ground X pins σ H a cls d B sI s) {h : Heap} (f : HandSPX.FlyingZ B (X.env :: X.outer) a (Zc cls d) h) (u : s.heap.UpToSlots h) : Ground X pins σ H a cls d B sI { s with heap := h } :=
  { inv := g.inv, old := g.old, fly := f, up := g.up.trans u, free := g.free, os := g.os, bare := g.bare }
/-- it is no frame of a def -/
theorem Ground.noFrame (g : Ground X pins σ H a cls d B sI s) : ¬ a ∈ frs (X.env :: X.outer) := by
  obtain ⟨oe, vs, e1, _, e2⟩ := g.fly.there
  intro m
  obtain ⟨_, u, e3, no⟩ := g.fly.2.2.1.mem m
  cases e1.symm.trans e3
  exact no vs e2
/-- what a clause's suite begins with -/
theorem Ground.seen (g : Ground X pins σ H a cls d B sI s) (hf : X.env.frame = some X.env.locals) : ∃ oe, s.heap.get? a = some oe ∧ Zc cls d oe ∧ (∃ vs, oe.data = .fields vs) ∧ Inv (X.suite a ((a, oe) :: (X.pn ++ pins))) [] σ H s := by
  obtain ⟨oe, vs, e1, z, e2⟩ := g.fly.there
  have no := g.noFrame
  refine ⟨oe, e1, z, ⟨vs, e2⟩, g.now.suite e1 e2 g.free (fun w => no ?_) fun w => no ?_⟩
  · subst w
    exact List.mem_filterMap.mpr ⟨X.env, .head _, hf⟩
  · have ⟨v, hv, ev⟩ := List.mem_filterMap.mp w
    exact List.mem_filterMap.mpr ⟨v, .tail _ hv, ev⟩
/-- the clause's class is asked for -/
theorem Ground.asked (g : Ground X pins σ H a cls d B sI s) (hf : X.env.frame = some X.env.locals) {x : Str} {c : Value} {np : Pos} {b : Bool} {Q : Bool → Shared → Prop} {E E' : Value → Shared → Prop} (hc : Names X x c) (hx : PySem.W.exmOne X.K cls c = some b) (q : Q b s) :
    wpAny (model X.prog X.w) (X.A.mark (some (.ref a))) (eval (.Name x np) X.env) (fun v t => wpAny (model X.prog X.w) (X.A.mark (some (.ref a))) (excMatches (.ref a) v) Q E t) E' s := by
  obtain ⟨oe, e1, z, _, S⟩ := g.seen hf
  have ty : PySem.W.Looks (model X.prog X.w) s.heap (typeOf (.ref a)) cls := fun _ _ _ _ kp r => wpAny_typeOf_ref (kp a oe e1) (z.1 ▸ r)
  have go := (PySem.W.exm_one (M := model X.prog X.w) g.now.kIn ty hx).here (A := X.A.mark (some (.ref a))) (E := E) q
  rcases hc.2.2 with m | ⟨m, v, n⟩
  · exact ld_glob (X := X.suite a ((a, oe) :: (X.pn ++ pins))) S hc.1 m go hc.2.1
  · exact ld_blt (X := X.suite a ((a, oe) :: (X.pn ++ pins))) S hc.1 m v go n hc.2.1
/-- no clause is left: it goes on -/
theorem Ground.goes (g : Ground X pins σ H a cls d B sI s) (hs : X.stack = X.env :: X.outer) (hf : X.env.frame = some X.env.locals) {W : WX} (tk : Takes X W) {Q : Flow → Shared → Prop} (w : W cls d σ H) :
    wpAny (model X.prog X.w) X.A (handleBy (.ref a) X.env []) Q X.xe s := by
  apply wpAny_handleBy_nil
  have off : ∀ {Q' : Flow → Shared → Prop}, wpAny (model X.prog X.w) X.A (setFlight (.ref a) X.env.frame) (fun _ t => wpAny (model X.prog X.w) X.A (throw (.ref a) : Sem Flow) Q' X.xe t) X.xe s := fun {Q'} => by
    rw [hf]
    apply HandSPX.setFlight_upZ g.fly
    intro h held u
    apply wpAny_throw
    apply tk
    exact ⟨a, B, sI, pins, σ, H, cls, d, rfl, g.inv, g.old, g.up.trans u, .inr (.inr (hs ▸ held)), g.free, g.os, g.bare, w⟩
  have ⟨_, _, _, oe, vs, T, _, _, e1, _, e2, e3, _⟩ := g.fly
  show wpAny _ _ (PySem.passOn _ _ _) _ _ _
  unfold PySem.passOn
  apply wpAny_bind
  apply wpAny_field e1 e2 e3
  rw [if_neg (by simp)]
  first
    | exact wpAny_bind (wpAny_pure (wpAny_bind off))
    | exact wpAny_bind off
/-- the ends of a suite are those of the try -/
theorem suite_ends {q : Addr × Obj} {D : Ends} {f : Flow} {t : Shared} (ok : X.Ok) (h : SP (X.suite a (q :: (X.pn ++ pins))) [] D f t) : SP X pins D f t := by
  cases f with
  | ret u => exact let ⟨v, τ, G, S, r, w⟩ := h; ⟨v, τ, G, S.unsuite ok, r, w⟩
  | next => exact let ⟨τ, G, S, w⟩ := h; ⟨τ, G, S.unsuite ok, w⟩
  | brk => exact let ⟨τ, G, S, w⟩ := h; ⟨τ, G, S.unsuite ok, w⟩
  | cont => exact let ⟨τ, G, S, w⟩ := h; ⟨τ, G, S.unsuite ok, w⟩
/-- the clauses one after the other -/
theorem Ground.clauses (hs : X.stack = X.env :: X.outer) (hf : X.env.frame = some X.env.locals) (hN : X.N.Nodup) {W : WX} (tk : Takes X W) {D : Ends} {hds : List ExceptHandler} {l : List Clause} (hh : HdsA X hds l) :
    ∀ {s : Shared}, Ground X pins σ H a cls d B sI s → wManyA X.K W D l cls d σ H → wpAny (model X.prog X.w) X.A (handleBy (.ref a) X.env hds) (SP X pins D) X.xe s := by
  induction hh with
  | nil => exact fun g w => g.goes hs hf tk w
  | cons hc hsu _ ih =>
    rintro s g ⟨b, hx, hy, hn⟩
    apply wpAny_handleBy_cons (codeAny_handlers_test (g.asked hf hc hx ?_)) nofun
    cases b
    · exact ih g (hn rfl)
    · apply codeAny_handlers_suite
      apply HandSPX.lands_againZ g.fly
      intro h f u
      have g2 := g.on f u
      obtain ⟨oe, _, z, fs, S⟩ := g2.seen hf
      exact wpAny_mono ((hsu a oe cls d (X.pn ++ pins) z fs).run [] _ σ H _ S (hy rfl a g.free)) (fun _ _ r => suite_ends g.inv.ok r) fun _ _ r => r.elim
  | @consA x n c i ts b₀ st np p' hds2 l2 hi hln hc hsu _ ih =>
    rintro s g ⟨b, hx, hy, hn⟩
    apply wpAny_handleBy_cons (codeAny_handlers_test (g.asked hf hc hx ?_)) nofun
    cases b
    · exact ih g (hn rfl)
    · apply codeAny_handlers_suite_as
      apply HandSPX.lands_againZ g.fly
      intro h f u
      have g2 := g.on f u
      obtain ⟨oe, _, z, fs, S⟩ := g2.seen hf
      apply store_ok (X := X.suite a ((a, oe) :: (X.pn ++ pins))) (v := .ref a) S hN hi (.inl hln) rfl _ (.inr hln)
      intro s2 S2
      refine wpAny_mono ((hsu a oe cls d (X.pn ++ pins) z fs).run [] s2 _ H _ S2 (hy rfl a g.free)) (fun fl s3 r => ?_) fun _ _ r => r.elim
      have gone : ∀ {τ : L2.St} {G : Hp} {P : Shared → Prop}, Inv X pins τ G s3 → (∀ s4, Inv X pins (τ.set i none) G s4 → P s4) → wpAny (model X.prog X.w) X.A (do bindName X.env n .none; unbindBehindTheSuite X.env n p') (fun _ s4 => P s4) X.xe s3 := fun J k => gone_ok J hN hi hln k
      have r2 := suite_ends g.inv.ok r
      cases fl with
      | ret u => exact let ⟨v, τ, G, J, rv, w⟩ := r2; gone J fun s4 J4 => ⟨v, _, G, J4, rv, w⟩
      | next => exact let ⟨τ, G, J, w⟩ := r2; gone J fun s4 J4 => ⟨_, G, J4, w⟩
      | brk => exact let ⟨τ, G, J, w⟩ := r2; gone J fun s4 J4 => ⟨_, G, J4, w⟩
      | cont => exact let ⟨τ, G, J, w⟩ := r2; gone J fun s4 J4 => ⟨_, G, J4, w⟩
/-- the ends of a try's body are those of the try -/
theorem body_ends {pn : List (Addr × Obj)} {xe : Value → Shared → Prop} {D : Ends} {f : Flow} {t : Shared} (ok : X.Ok) (h : SP (X.tr pn xe) [] D f t) (hp : ∀ {τ : L2.St} {G : Hp}, Inv (X.tr pn xe) [] τ G t → Inv X pins τ G t) : SP X pins D f t := by
  cases f with
  | ret u => exact let ⟨v, τ, G, S, r, w⟩ := h; ⟨v, τ, G, hp S, r, w⟩
  | next => exact let ⟨τ, G, S, w⟩ := h; ⟨τ, G, hp S, w⟩
  | brk => exact let ⟨τ, G, S, w⟩ := h; ⟨τ, G, hp S, w⟩
  | cont => exact let ⟨τ, G, S, w⟩ := h; ⟨τ, G, hp S, w⟩
end
theorem ps_try_manyA {X : Cx} {body : List Stmt} {h₀ : ExceptHandler} {hds : List ExceptHandler} {l : List Clause} {pos : Pos} {tb : WX → TS} {W : WX} (hs : X.stack = X.env :: X.outer) (hf : X.env.frame = some X.env.locals) (hN : X.N.Nodup) (tk : Takes X W)
    (hb : ∀ (V : WX) (pn : List (Addr × Obj)) (xe : Value → Shared → Prop), Takes (X.tr pn xe) V → PassesOwn (model X.prog X.w) X.A X.env xe → PSs (X.tr pn xe) body (tb V)) (hh : HdsA X (h₀ :: hds) l) :
    PS X (.Try body (h₀ :: hds) [] [] pos) (fun D σ H => tb (wManyA X.K W D l) D σ H) := .mk fun pins s σ H D I h => by
  have ok := I.ok
  have fr : X.A.frames = some (X.env :: X.outer) := hs ▸ ok.frames
  apply wpAny_Try_except
  let xe : Value → Shared → Prop := fun e t => wpAny (model X.prog X.w) X.A (noteFrame e X.env) (fun _ t2 => wpAny (model X.prog X.w) X.A (setFlight e none) (fun _ t3 => wpAny (model X.prog X.w) X.A (handleBy e X.env (h₀ :: hds)) (SP X pins D) X.xe t3) X.xe t2) X.xe t
  have run := (hb (wManyA X.K W D l) (X.pn ++ pins) xe (fun u t x => by
    obtain ⟨a, B, sI, ps, τ, G, cls, d, rfl, J, old, up, sky, free, os, bare, w⟩ := x
    apply Sky.land Zc.steady fr hf (hs ▸ sky)
    intro g fl u
    exact Ground.clauses hs hf hN tk hh { inv := J.ofTry ok, old := old, fly := fl, up := up.trans u, free := free, os := os, bare := bare } w) PassesOwn.looking).run [] s σ H D (I.toTry _) h
  refine wpAny_mono run (fun f t r => ?_) fun _ _ r => r
  have r2 := body_ends (pins := pins) ok r fun S => S.ofTry ok
  cases f with
  | next => exact wpAny_execs_nil r2
  | _ => exact r2
end Toy

namespace Toy
open PySem PySem.Spec PyProof.Rows L2
/-! isinstance with built-in types, of things that may be objects of own classes -/
def six : List String := ["bool", "int", "str", "list", "tuple", "dict"]
/-- no object of the class C is of one of the six types -/
def plainB (K : PySem.W.Frag) (C : Addr) : Bool := six.all fun T => decide (PySem.W.kitOne K (.ref C) (.type T) = some false)
theorem plainB_ok {K : PySem.W.Frag} {C : Addr} (h : plainB K C = true) {T : String} (m : T ∈ six) : PySem.W.kitOne K (.ref C) (.type T) = some false := of_decide_eq_true (List.all_eq_true.mp h T m)
/-- what the written part says of a class whose objects are asked for: `__class__` is found at object, and is read by its getter -/
abbrev clsG : Value := .builtin "object.__class__"
abbrev askG (K : PySem.W.Frag) (C : Addr) : Option (Option Value) × Option (Option Value) × Option Bool × Option Bool := (PySem.W.findIn K (.ref C) "__class__", PySem.W.specialIn K clsG "__get__", PySem.W.takesIn K clsG, PySem.W.mroIn K C (.type "object"))
def insB (K : PySem.W.Frag) (C : Addr) : Bool := plainB K C && decide (askG K C = (some (some clsG), some (some (.builtin "getset_descriptor.__get__")), some true, some true))
structure AskC (K : PySem.W.Frag) (C : Addr) : Prop where
  plain : plainB K C = true
  all : askG K C = (some (some clsG), some (some (.builtin "getset_descriptor.__get__")), some true, some true)
theorem insB_ok {K : PySem.W.Frag} {C : Addr} (h : insB K C = true) : AskC K C := ⟨(Bool.and_eq_true_iff.mp h).1, of_decide_eq_true (Bool.and_eq_true_iff.mp h).2⟩
section
variable {K : PySem.W.Frag} {C : Addr} (i : AskC K C)
include i
theorem AskC.gives : PySem.W.findIn K (.ref C) "__class__" = some (some clsG) := congrArg (·.1) i.all
theorem AskC.reads : PySem.W.specialIn K clsG "__get__" = some (some (.builtin "getset_descriptor.__get__")) := congrArg (·.2.1) i.all
theorem AskC.takes : PySem.W.takesIn K clsG = some true := congrArg (·.2.2.1) i.all
theorem AskC.roots : PySem.W.mroIn K C (.type "object") = some true := congrArg (·.2.2.2) i.all
end
/-- an error as a value -/
structure ErrC (K : PySem.W.Frag) (C : Addr) : Prop where
  ins : AskC K C
  x : XfC K C
/-- the name of the built-in type, "object" for an object of an own class -/
inductive TyG (K : PySem.W.Frag) (H : Hp) : V → String → Prop
  | blt {v : V} {n : String} : tyN H v = some n → TyG K H v n
  | ins {a C dx : Addr} {fs : List (Str × V)} : H a = some (.ins C dx fs) → Cls K C → AskC K C → TyG K H (.ref a) "object"
  | err {a C : Addr} : H a = some (ExO (.ref C) a) → ErrC K C → TyG K H (.ref a) "object"
theorem TyG.same {K : PySem.W.Frag} {H H' : Hp} {v : V} {n : String} (h : TyG K H v n) (k : Same H H') : TyG K H' v n := by
  cases h with
  | blt h => exact .blt (tyN_keep k h)
  | ins h c i => exact .ins (k _ _ h) c i
  | err h c => exact .err (k _ _ h) c
/-- .. of a class without an __init__ of its own -/
def vbm : List Value := [.type "ValueError", .type "Exception", .type "BaseException", .type "object"]
def errB (K : PySem.W.Frag) (C : Addr) : Bool := insB K C && xfB K C && PySem.W.excIn K C vbm "ValueError.__new__" && PySem.W.keepIn K (.ref C) && decide (PySem.W.typeIn K (.ref C) = some (.type "type"))
structure ErrX (K : PySem.W.Frag) (C : Addr) : Prop where
  er : ErrC K C
  ex : PySem.W.excIn K C [.type "ValueError", .type "Exception", .type "BaseException", .type "object"] "ValueError.__new__" = true
  kp : (PySem.W.keepIn K (.ref C)) = true
  ty : PySem.W.typeIn K (.ref C) = some (.type "type")
theorem errX_ok {K : PySem.W.Frag} {C : Addr} (h : errB K C = true) : ErrX K C := by
  simp only [errB, Bool.and_eq_true, decide_eq_true_eq] at h
  exact ⟨⟨insB_ok h.1.1.1.1, xfB_ok h.1.1.1.2⟩, h.1.1.2, h.1.2, h.2⟩
section
variable {X : Cx}
def isOf (n T : String) : Bool := n == T || (n == "bool" && T == "int")
def rIsG (K : PySem.W.Frag) (T : String) : List V → Hp → VK → Prop := fun xs H Q => ∃ (x : V) (n : String), xs = [x, .ty T] ∧ TyG K H x n ∧ Q (.bl (isOf n T)) H
theorem call_isG {T : String} (m : T ∈ six) : CallR X (.builtin "isinstance") (rIsG X.K T) := by
  intro pins s σ H xs us Q I r h
  obtain ⟨x, n, e, ty, q⟩ := h
  have hob : isOf "object" T = false := by
    unfold six at m
    simp only [List.mem_cons, List.not_mem_nil, or_false] at m
    rcases m with rfl | rfl | rfl | rfl | rfl | rfl <;> rfl
  cases ty with
  | blt hb => exact call_isN pins s σ H xs us Q I r ⟨x, n, _, e, hb, kit7 hb m, q⟩
  | ins ha c i =>
    rw [hob] at q
    exact call_isi pins s σ H xs us Q I r ⟨_, .ty T, .ref _, .type T, false, e, .ty T, .base (.ins ha c i.gives i.reads i.takes i.roots), plainB_ok i.plain m, q⟩
  | @err a C ha c =>
    rw [hob] at q
    subst e
    obtain ⟨u1, u2, rfl, r1, r2⟩ : ∃ u1 u2, us = [u1, u2] ∧ RelV (.ref a) u1 ∧ RelV (.ty T) u2 := by
      cases r with
      | cons p1 t => cases t with
        | cons p2 t => cases t with
          | nil => exact ⟨_, _, rfl, p1, p2⟩
    have e1 : u1 = .ref a := r1
    have e2 : u2 = .type T := r2
    subst e1 e2
    obtain ⟨⟨oe, vs, hget, hz, hf, _⟩, _⟩ := I.hok a _ ha
    have at_ : PySem.W.InstAt s.heap a oe C none := by
      cases oe with
      | mk oc od oda osl =>
        have z1 : oc = .ref C := hz.1
        have z2 : od = none := hz.2
        have z3 : oda = .fields vs := hf
        subst z1 z2 z3
        exact .mk hget rfl rfl trivial
    exact PySem.W.kia_one (PySem.W.handS_kitx_exc c.x.ga c.x.gg c.x.exC c.x.hdC c.ins.gives c.ins.reads c.ins.takes c.ins.roots) I.kIn at_ (plainB_ok c.ins.plain m) (fun z => nomatch z) fun tk => ⟨.bl false, H, I.tok tk, rfl, q⟩
/-- X(), an error class without an __init__: a new error, not raised -/
theorem pe_err0 {C : Addr} {bm : List Value} {B nw ini : String} {x : Str} {p pos : Pos} (F : ExcBaseFacts B nw ini bm) (q : PySem.W.excIn X.K C bm nw = true) (m : X.mg x = some (.ref C)) (k : PySem.W.keepIn X.K (.ref C) = true) (g : Gl X x) (hd : (x == ("__debug__" : Str)) = false := by decide) :
    PE X (.Call (.Name x p) [] [] pos) (fun _ H Q => ∀ a, H a = none → Q (.ref a) (upd H a (ExO (.ref C) a))) := .mk fun pins s σ H Q I h => by
  have done : wpAny (model X.prog X.w) X.A (call (.ref C) ([] ++ [])) (EP X pins σ Q) X.xe s := by
    obtain ⟨_, _, _, _, _, _, _, _, _, _, _, _, _, _, _, _, _, there, ns, no, tail⟩ := exc_obj I.kIn q
    apply wpAny_call_exc_subT F tail there ns no (hrest := Nat.zero_le _)
    intro h2 e new
    have free := I.hok.gone new.new
    have ⟨_, at_, _⟩ := new.there
    exact ⟨.ref e, upd H e (ExO (.ref C) e), I.laidN new.keeps new.new free (exO_ok at_ ⟨rfl, rfl⟩ rfl rfl rfl (show 4 < 6 from by decide)), rfl, h e free⟩
  exact wpAny_Call_Name_kw (ld_glob I g m (PySem.W.callWith_K0 I.kIn k done) hd)
end
end Toy

namespace Toy
open PySem PySem.Spec PyProof.Rows L2
/-! the text by places -/
def top (i : Nat) : Stmt := PySem.Challenge.pw_hintslie_k08_after_a_request.main.body.getD i (.Pass ⟨0, 0, 0, 0⟩)
abbrev s_NoPostZ_initZ : Stmt := inClass (top 3) 0
theorem sc_NoPostZ_initZ : FnScope ["self", "post"] ["self", "post"] (defScope s_NoPostZ_initZ) := ⟨rfl, rfl, rfl, by decide +kernel, rfl, by decide +kernel, by decide +kernel⟩
abbrev s_NoRequestZ_initZ : Stmt := inClass (top 4) 0
theorem sc_NoRequestZ_initZ : FnScope ["self", "name"] ["self", "name"] (defScope s_NoRequestZ_initZ) := ⟨rfl, rfl, rfl, by decide +kernel, rfl, by decide +kernel, by decide +kernel⟩
abbrev s_is_integer : Stmt := top 8
theorem sc_is_integer : FnScope ["thing"] ["thing"] (defScope s_is_integer) := ⟨rfl, rfl, rfl, by decide +kernel, rfl, by decide +kernel, by decide +kernel⟩
abbrev s_is_natural : Stmt := top 9
theorem sc_is_natural : FnScope ["thing"] ["thing"] (defScope s_is_natural) := ⟨rfl, rfl, rfl, by decide +kernel, rfl, by decide +kernel, by decide +kernel⟩
abbrev s_is_below : Stmt := top 10
theorem sc_is_below : FnScope ["thing", "many"] ["thing", "many"] (defScope s_is_below) := ⟨rfl, rfl, rfl, by decide +kernel, rfl, by decide +kernel, by decide +kernel⟩
abbrev s_is_tuple_of : Stmt := top 11
theorem sc_is_tuple_of : FnScope ["thing", "many"] ["thing", "many"] (defScope s_is_tuple_of) := ⟨rfl, rfl, rfl, by decide +kernel, rfl, by decide +kernel, by decide +kernel⟩
abbrev s_is_name : Stmt := top 12
theorem sc_is_name : FnScope ["thing", "letter"] ["thing"] (defScope s_is_name) := ⟨rfl, rfl, rfl, by decide +kernel, rfl, by decide +kernel, by decide +kernel⟩
abbrev s_is_known : Stmt := top 13
theorem sc_is_known : FnScope ["thing", "names"] ["thing", "names"] (defScope s_is_known) := ⟨rfl, rfl, rfl, by decide +kernel, rfl, by decide +kernel, by decide +kernel⟩
abbrev s_is_offsets : Stmt := top 15
theorem sc_is_offsets : FnScope ["system", "thing", "offset", "ways", "other", "way"] ["system", "thing"] (defScope s_is_offsets) := ⟨rfl, rfl, rfl, by decide +kernel, rfl, by decide +kernel, by decide +kernel⟩
abbrev s_first_offsets : Stmt := top 16
theorem sc_first_offsets : FnScope ["system"] ["system"] (defScope s_first_offsets) := ⟨rfl, rfl, rfl, by decide +kernel, rfl, by decide +kernel, by decide +kernel⟩
abbrev s_risen : Stmt := top 17
theorem sc_risen : FnScope ["system", "offsets", "name", "served", "raw", "rise", "offset", "price", "ways", "cost", "post"] ["system", "offsets", "name"] (defScope s_risen) := ⟨rfl, rfl, rfl, by decide +kernel, rfl, by decide +kernel, by decide +kernel⟩
abbrev s_after_request : Stmt := top 18
theorem sc_after_request : FnScope ["system", "offsets", "name"] ["system", "offsets", "name"] (defScope s_after_request) := ⟨rfl, rfl, rfl, by decide +kernel, rfl, by decide +kernel, by decide +kernel⟩
abbrev s__is_price : Stmt := top 23
theorem sc__is_price : FnScope ["thing"] ["thing"] (defScope s__is_price) := ⟨rfl, rfl, rfl, by decide +kernel, rfl, by decide +kernel, by decide +kernel⟩
abbrev s_is_moves : Stmt := top 24
theorem sc_is_moves : FnScope ["thing", "post", "prices", "price"] ["thing"] (defScope s_is_moves) := ⟨rfl, rfl, rfl, by decide +kernel, rfl, by decide +kernel, by decide +kernel⟩
abbrev s__is_prices : Stmt := top 25
theorem sc__is_prices : FnScope ["thing", "posts", "told", "price"] ["thing", "posts"] (defScope s__is_prices) := ⟨rfl, rfl, rfl, by decide +kernel, rfl, by decide +kernel, by decide +kernel⟩
abbrev s__is_requests : Stmt := top 26
theorem sc__is_requests : FnScope ["thing", "posts", "name"] ["thing", "posts"] (defScope s__is_requests) := ⟨rfl, rfl, rfl, by decide +kernel, rfl, by decide +kernel, by decide +kernel⟩
abbrev s_least_ways : Stmt := top 27
theorem sc_least_ways : FnScope ["moves", "ways", "posts", "middle", "start", "end", "prices", "row"] ["moves"] (defScope s_least_ways) := ⟨rfl, rfl, rfl, by decide +kernel, rfl, by decide +kernel, by decide +kernel⟩
abbrev s_SystemZ_initZ : Stmt := inClass (top 28) 0
theorem sc_SystemZ_initZ : FnScope ["self", "moves", "requests", "name"] ["self", "moves", "requests"] (defScope s_SystemZ_initZ) := ⟨rfl, rfl, rfl, by decide +kernel, rfl, by decide +kernel, by decide +kernel⟩
abbrev s_SystemZ_eqZ : Stmt := inClass (top 28) 2
theorem sc_SystemZ_eqZ : FnScope ["self", "other"] ["self", "other"] (defScope s_SystemZ_eqZ) := ⟨rfl, rfl, rfl, by decide +kernel, rfl, by decide +kernel, by decide +kernel⟩
abbrev s_System_prices : Stmt := inClass (top 28) 5
theorem sc_System_prices : FnScope ["self", "name"] ["self", "name"] (defScope s_System_prices) := ⟨rfl, rfl, rfl, by decide +kernel, rfl, by decide +kernel, by decide +kernel⟩
abbrev s__law_dice : Stmt := top 30
theorem sc__law_dice : FnScope ["script", "cell"] ["script"] (defScope s__law_dice) := ⟨rfl, rfl, rfl, by decide +kernel, rfl, by decide +kernel, by decide +kernel⟩
abbrev s__law_draw : Stmt := top 31
theorem sc__law_draw : FnScope ["dice", "many", "cell", "value", "number"] ["dice", "many"] (defScope s__law_draw) := ⟨rfl, rfl, rfl, by decide +kernel, rfl, by decide +kernel, by decide +kernel⟩
abbrev s__law_word : Stmt := top 32
theorem sc__law_word : FnScope ["dice", "most", "letters", "word", "k"] ["dice", "most"] (defScope s__law_word) := ⟨rfl, rfl, rfl, by decide +kernel, rfl, by decide +kernel, by decide +kernel⟩
abbrev s__law_names : Stmt := top 33
theorem sc__law_names : FnScope ["dice", "many", "most", "names", "k", "word"] ["dice", "many", "most"] (defScope s__law_names) := ⟨rfl, rfl, rfl, by decide +kernel, rfl, by decide +kernel, by decide +kernel⟩
abbrev s__law_moves : Stmt := top 34
theorem sc__law_moves : FnScope ["dice", "posts", "top", "rows", "a", "row", "b"] ["dice", "posts", "top"] (defScope s__law_moves) := ⟨rfl, rfl, rfl, by decide +kernel, rfl, by decide +kernel, by decide +kernel⟩
abbrev s__law_prices : Stmt := top 35
theorem sc__law_prices : FnScope ["dice", "posts", "top", "row", "post", "item", "keep"] ["dice", "posts", "top"] (defScope s__law_prices) := ⟨rfl, rfl, rfl, by decide +kernel, rfl, by decide +kernel, by decide +kernel⟩
abbrev s__law_requests : Stmt := top 36
theorem sc__law_requests : FnScope ["dice", "names", "posts", "top", "requests", "name"] ["dice", "names", "posts", "top"] (defScope s__law_requests) := ⟨rfl, rfl, rfl, by decide +kernel, rfl, by decide +kernel, by decide +kernel⟩
abbrev s__law_is_integer : Stmt := top 37
theorem sc__law_is_integer : FnScope ["thing"] ["thing"] (defScope s__law_is_integer) := ⟨rfl, rfl, rfl, by decide +kernel, rfl, by decide +kernel, by decide +kernel⟩
abbrev s__law_ways : Stmt := top 38
theorem sc__law_ways : FnScope ["moves", "posts", "ways", "k", "longer", "a", "row", "c", "b"] ["moves"] (defScope s__law_ways) := ⟨rfl, rfl, rfl, by decide +kernel, rfl, by decide +kernel, by decide +kernel⟩
abbrev s__law_offsets : Stmt := top 39
theorem sc__law_offsets : FnScope ["dice", "ways", "most", "drawn", "closed", "b", "low", "post", "a", "item"] ["dice", "ways", "most"] (defScope s__law_offsets) := ⟨rfl, rfl, rfl, by decide +kernel, rfl, by decide +kernel, by decide +kernel⟩
abbrev s__law_least : Stmt := top 40
theorem sc__law_least : FnScope ["moves", "costs", "least", "k", "a", "b"] ["moves", "costs"] (defScope s__law_least) := ⟨rfl, rfl, rfl, by decide +kernel, rfl, by decide +kernel, by decide +kernel⟩
abbrev s__law_right : Stmt := top 41
theorem sc__law_right : FnScope ["moves", "offsets", "prices", "told", "posts", "costs", "post", "least", "a"] ["moves", "offsets", "prices", "told"] (defScope s__law_right) := ⟨rfl, rfl, rfl, by decide +kernel, rfl, by decide +kernel, by decide +kernel⟩
abbrev s__law_offsets_follow : Stmt := top 42
theorem sc__law_offsets_follow : FnScope ["dice", "most", "posts", "moves", "names", "requests", "system", "ways", "first", "offsets", "name", "offset"] ["dice"] (defScope s__law_offsets_follow) := ⟨rfl, rfl, rfl, by decide +kernel, rfl, by decide +kernel, by decide +kernel⟩
abbrev s__law_odd : Stmt := top 43
theorem sc__law_odd : FnScope ["dice", "deep", "k", "menu"] ["dice"] (defScope s__law_odd) := ⟨rfl, rfl, rfl, by decide +kernel, rfl, by decide +kernel, by decide +kernel⟩
abbrev s__law_spoiled : Stmt := top 44
theorem sc__law_spoiled : FnScope ["dice", "offsets", "kind", "where", "items", "item"] ["dice", "offsets"] (defScope s__law_spoiled) := ⟨rfl, rfl, rfl, by decide +kernel, rfl, by decide +kernel, by decide +kernel⟩
abbrev s__law_are_offsets : Stmt := top 45
theorem sc__law_are_offsets : FnScope ["ways", "thing", "posts", "item", "a", "b"] ["ways", "thing"] (defScope s__law_are_offsets) := ⟨rfl, rfl, rfl, by decide +kernel, rfl, by decide +kernel, by decide +kernel⟩
abbrev s__law_told_after : Stmt := top 46
theorem sc__law_told_after : FnScope ["system", "offsets", "name", "found", "kind", "e"] ["system", "offsets", "name"] (defScope s__law_told_after) := ⟨rfl, rfl, rfl, by decide +kernel, rfl, by decide +kernel, by decide +kernel⟩
abbrev s__law_same : Stmt := top 47
theorem sc__law_same : FnScope ["told", "due"] ["told", "due"] (defScope s__law_same) := ⟨rfl, rfl, rfl, by decide +kernel, rfl, by decide +kernel, by decide +kernel⟩
abbrev s__law_things_judged : Stmt := top 48
theorem sc__law_things_judged : FnScope ["dice", "spoil", "strange", "posts", "moves", "names", "requests", "system", "ways", "right", "before", "offsets", "name", "told"] ["dice"] (defScope s__law_things_judged) := ⟨rfl, rfl, rfl, by decide +kernel, rfl, by decide +kernel, by decide +kernel⟩
abbrev s_law : Stmt := top 49
theorem sc_law : FnScope ["script", "dice"] ["script"] (defScope s_law) := ⟨rfl, rfl, rfl, by decide +kernel, rfl, by decide +kernel, by decide +kernel⟩
structure Top (K : PySem.W.Frag) (mg : Str → Option Value) where
  b_abs : mg "abs" = none
  b_all : mg "all" = none
  b_any : mg "any" = none
  b_bool : mg "bool" = none
  b_dict : mg "dict" = none
  b_enumerate : mg "enumerate" = none
  b_int : mg "int" = none
  b_isinstance : mg "isinstance" = none
  b_len : mg "len" = none
  b_list : mg "list" = none
  b_min : mg "min" = none
  b_range : mg "range" = none
  b_sorted : mg "sorted" = none
  b_str : mg "str" = none
  b_tuple : mg "tuple" = none
  b_zip : mg "zip" = none
  g_LETTERS : ∃ t, mg "LETTERS" = some (.str "abcdefghijklmnopqrstuvwxyz" t)
  g_MOST_POSTS : ∃ t, mg "MOST_POSTS" = some (.int 6 t)
  g_MOST_PRICE : ∃ t, mg "MOST_PRICE" = some (.int 9 t)
  g_MOST_REQUESTS : ∃ t, mg "MOST_REQUESTS" = some (.int 5 t)
  d_is_integer : DefAt K mg "is_integer" s_is_integer ["thing"]
  d_is_natural : DefAt K mg "is_natural" s_is_natural ["thing"]
  d_is_below : DefAt K mg "is_below" s_is_below ["thing", "many"]
  d_is_tuple_of : DefAt K mg "is_tuple_of" s_is_tuple_of ["thing", "many"]
  d_is_name : DefAt K mg "is_name" s_is_name ["thing"]
  d_is_known : DefAt K mg "is_known" s_is_known ["thing", "names"]
  d_is_offsets : DefAt K mg "is_offsets" s_is_offsets ["system", "thing"]
  d_first_offsets : DefAt K mg "first_offsets" s_first_offsets ["system"]
  d_risen : DefAt K mg "risen" s_risen ["system", "offsets", "name"]
  d_after_request : DefAt K mg "after_request" s_after_request ["system", "offsets", "name"]
  d__is_price : DefAt K mg "_is_price" s__is_price ["thing"]
  d_is_moves : DefAt K mg "is_moves" s_is_moves ["thing"]
  d__is_prices : DefAt K mg "_is_prices" s__is_prices ["thing", "posts"]
  d__is_requests : DefAt K mg "_is_requests" s__is_requests ["thing", "posts"]
  d_least_ways : DefAt K mg "least_ways" s_least_ways ["moves"]
  d__law_dice : DefAt K mg "_law_dice" s__law_dice ["script"]
  d__law_draw : DefAt K mg "_law_draw" s__law_draw ["dice", "many"]
  d__law_word : DefAt K mg "_law_word" s__law_word ["dice", "most"]
  d__law_names : DefAt K mg "_law_names" s__law_names ["dice", "many", "most"]
  d__law_moves : DefAt K mg "_law_moves" s__law_moves ["dice", "posts", "top"]
  d__law_prices : DefAt K mg "_law_prices" s__law_prices ["dice", "posts", "top"]
  d__law_requests : DefAt K mg "_law_requests" s__law_requests ["dice", "names", "posts", "top"]
  d__law_is_integer : DefAt K mg "_law_is_integer" s__law_is_integer ["thing"]
  d__law_ways : DefAt K mg "_law_ways" s__law_ways ["moves"]
  d__law_offsets : DefAt K mg "_law_offsets" s__law_offsets ["dice", "ways", "most"]
  d__law_least : DefAt K mg "_law_least" s__law_least ["moves", "costs"]
  d__law_right : DefAt K mg "_law_right" s__law_right ["moves", "offsets", "prices", "told"]
  d__law_offsets_follow : DefAt K mg "_law_offsets_follow" s__law_offsets_follow ["dice"]
  d__law_odd : DefAt K mg "_law_odd" s__law_odd ["dice"]
  d__law_spoiled : DefAt K mg "_law_spoiled" s__law_spoiled ["dice", "offsets"]
  d__law_are_offsets : DefAt K mg "_law_are_offsets" s__law_are_offsets ["ways", "thing"]
  d__law_told_after : DefAt K mg "_law_told_after" s__law_told_after ["system", "offsets", "name"]
  d__law_same : DefAt K mg "_law_same" s__law_same ["told", "due"]
  d__law_things_judged : DefAt K mg "_law_things_judged" s__law_things_judged ["dice"]
  d_law : DefAt K mg "law" s_law ["script"]
  c_NoRequest : Addr
  x_NoRequest : ExcAt K mg "NoRequest" c_NoRequest "name" s_NoRequestZ_initZ
  c_BadOffsets : Addr
  mg_BadOffsets : mg "BadOffsets" = some (.ref c_BadOffsets)
  y_BadOffsets : ErrX K c_BadOffsets
  e_BadOffsets_BadOffsets : PySem.W.exmOne K (.ref c_BadOffsets) (.ref c_BadOffsets) = some true
  e_NoRequest_BadOffsets : PySem.W.exmOne K (.ref c_NoRequest) (.ref c_BadOffsets) = some false
  e_NoRequest_NoRequest : PySem.W.exmOne K (.ref c_NoRequest) (.ref c_NoRequest) = some true
  c_System : Addr
  cl_System : Cls K c_System
  mg_System : mg "System" = some (.ref c_System)
  I_System : AskC K c_System
  na_System_moves : NoAttr K c_System "moves"
  na_System_posts : NoAttr K c_System "posts"
  na_System_names : NoAttr K c_System "names"
  na_System_ways : NoAttr K c_System "ways"
  na_System__requests : NoAttr K c_System "_requests"
  i_System : ClsInit K c_System "System.__init__" s_SystemZ_initZ ["self", "moves", "requests"]
  m_System___eq__ : MethAt K c_System "__eq__" "System.__eq__" s_SystemZ_eqZ ["self", "other"]
  m_System_prices : MethAt K c_System "prices" "System.prices" s_System_prices ["self", "name"]
end Toy

namespace Toy
open PySem PySem.Spec PyProof.Rows L2
local macro_rules | `(tactic| walk_at "hp") => `(tactic| first
  | assumption
  | exact upd_same
  | (refine Eq.trans (upd_ne (by first | assumption | (apply Ne.symm; assumption))) ?_; walk_at "hp"))
local macro_rules | `(tactic| walk_at "side") => `(tactic| first
  | exact .inl ⟨by omega, by omega⟩
  | exact .inr ⟨by omega, by omega⟩
  | exact ⟨by omega, by omega⟩
  | (show _ ≤ _; omega)
  | (show (_ : Int) < _; omega)
  | decide
  | assumption)
local macro_rules | `(tactic| walk_at "r") => `(tactic| first
  | refine ⟨_, rfl, ?_⟩
  | refine ⟨_, _, rfl, rfl, ?_⟩
  | refine ⟨_, _, _, _, rfl, rfl, SqL.of (by walk_at "hp"), rfl, ?_⟩
  | refine ⟨_, _, _, _, rfl, rfl, SqT.of (by walk_at "hp"), rfl, ?_⟩
  | refine ⟨_, _, _, _, rfl, rfl, (by walk_at "hp"), rfl, ?_⟩
  | refine And.intro rfl ?_
  | refine ⟨_, _, rfl, SqT.of (by walk_at "hp"), ?_⟩
  | refine ⟨_, _, rfl, SqL.of (by walk_at "hp"), ?_⟩
  | refine .inl ⟨_, rfl, ?_⟩
  | refine ⟨_, _, rfl, .inl (SqL.of (by walk_at "hp")), ?_⟩
  | refine ⟨_, _, rfl, .inr (SqT.of (by walk_at "hp")), ?_⟩
  | refine ⟨_, _, rfl, .inl ⟨SqL.of (by walk_at "hp"), ?_⟩⟩
  | refine And.intro (.inl ⟨rfl, _, SqL.of (by walk_at "hp")⟩) ?_
  | refine ⟨_, _, _, rfl, rfl, (by walk_at "hp"), ?_⟩
  | refine ⟨_, _, rfl, (by walk_at "hp"), ?_⟩
  | refine And.intro (by walk_at "side") ?_)
local macro_rules | `(tactic| walk_at "rr") => `(tactic| (repeat walk_at "r"))
local macro_rules | `(tactic| walk_at "k") => `(tactic| first
  | refine ite2 (fun _ => ?_) (fun g => absurd rfl g)
  | refine ite2 (fun g => absurd g (by decide)) (fun _ => ?_)
  | refine ite2 (fun _ => ?_) (fun g => absurd (decide_eq_true (by omega)) g)
  | refine ite2 (fun g => absurd (of_decide_eq_true g) (by omega)) (fun _ => ?_)
  | refine ite2 (fun g => (nd_t g (by omega)).elim) (fun _ => ?_)
  | refine ite2 (fun _ => ?_) (fun g => absurd (nd_f g) (by omega)))
local macro_rules | `(tactic| walk_at "rk") => `(tactic| (repeat (first | walk_at "r" | walk_at "k")))
section
variable {P : Program} {w : World} {K : PySem.W.Frag} {mg : Str → Option Value} {base : Heap}
theorem ok__law_dice (T : Top K mg) : Ok P w K mg base 1 "_law_dice" ["script"] (spDice K) := by
  refine ok_of T.d__law_dice sc__law_dice (fun vs H Q E h => ?_) (fun f cdv A outer s H vs Q E hr h => ?_)
  · obtain ⟨a, ns, rfl, _⟩ := h
    rfl
  · obtain ⟨a, ns, rfl, hS, hlen, k⟩ := h
    refine ⟨_, (pss_one (ps_ret (pe_lst (pa_cons (pe_lc (own := [("cell", 1)]) (g := gName 1) rfl sc__law_dice.nd (pi_list (pe_slice sl_list (pv 0) po_none (po_some pe_int))) (blkOk_by (own := [("cell", 1)]) (N := ["script", "cell"]) (sc := defScope s__law_dice) (by decide +kernel)) (fun _ _ _ _ _ => (pg_name (i := 1) sc__law_dice.nd rfl (Or.inl rfl))) (fun _ _ _ _ _ => pts_nil) (fun _ _ _ _ _ => (pe_callB (id := "abs") call_abs (by rfl) T.b_abs (by decide +kernel) (pa_cons (pe_callTy (T := "int") call_int1 (by rfl) T.b_int (by decide +kernel) (pa_cons (pv 1) pa_nil)) pa_nil)))) (pa_cons pe_int (pa_cons pe_int (pa_cons pe_int (pa_cons pe_int pa_nil)))))))), ?_⟩
    refine ⟨_, rfl, _, rfl, a, _, rfl, hS, fun p hp => ⟨p, rfl, ⟨_, SqL.of upd_same⟩, fun D hD => ?_⟩⟩
    have npD : p ≠ D := ne_of_none upd_same hD
    have nD : H D = none := by rw [upd_ne npD.symm] at hD; exact hD
    obtain ⟨ms, hms⟩ : ∃ ms : List Int, cutV (ns.map V.int) none (some 63) = ms.map V.int := ⟨(ns.drop _).take _, by unfold cutV; rw [List.map_take, List.map_drop]⟩
    have hl63 : ms.length ≤ 63 := by
      have := congrArg List.length hms
      rw [List.length_map] at this
      have h2 := cutV_length (ns.map V.int) none (some 63)
      rw [List.length_map] at h2
      omega
    refine lc_list (K := K) (a := p) (xs := ms.map V.int) (fun i H2 => ∃ cells : List Int, H2 D = some (.lst (cells.map V.int)) ∧ cells.length = i ∧ (∀ x ∈ cells, 0 ≤ x) ∧ H2 p = some (.lst (ms.map V.int)) ∧ Same H H2) ?_ ?_ ?_ ?_
    · refine ⟨[], upd_same, rfl, (by simp), ?_, ?_⟩
      · rw [upd_ne npD, upd_same, hms]
      · exact (same_new hp).trans (same_new hD)
    · rintro i H2 hi ⟨cells, e1, e2, e3, e4, e5⟩
      exact SqL.of e4
    · rintro i x H2 hi ⟨cells, e1, e2, e3, e4, e5⟩
      obtain ⟨z, rfl, hz⟩ : ∃ z, x = V.int z ∧ i < ms.length := by
        rw [List.getElem?_map] at hi
        cases e : ms[i]? with
        | none => rw [e] at hi; cases hi
        | some z => rw [e] at hi; exact ⟨z, (Option.some.inj hi).symm, (List.getElem?_eq_some_iff.mp e).1⟩
      refine ⟨rfl, ?_⟩
      refine yesT ?_
      refine ⟨_, rfl, .inl ⟨_, rfl, _, rfl, _, e1, ?_, cells ++ [if z < 0 then -z else z], ?_, ?_, ?_, ?_, ?_⟩⟩
      · rw [List.length_map, e2]; exact small1000 (by omega)
      · rw [upd_same, List.map_append]; rfl
      · rw [List.length_append, e2]; rfl
      · intro x hx
        rcases List.mem_append.mp hx with q | q
        · exact e3 x q
        · rw [List.mem_singleton.mp q]; split <;> omega
      · rw [upd_ne npD]; exact e4
      · intro b o hb
        rw [upd_ne (ne_of_none hb nD)]
        exact e5 b o hb
    · rintro H2 ⟨cells, e1, e2, e3, e4, e5⟩
      refine ⟨(by show 5 ≤ sizeLine; decide), fun d hd => k d D _ (e5.trans (same_new hd)) (e5.free hd) nD ⟨⟨cells, 0, 0, 1, 0, upd_same, ?_, e3, by omega, by omega, by omega, by omega, by omega⟩⟩⟩
      rw [upd_ne (ne_of_none e1 hd)]
      exact e1
theorem ok__law_draw (T : Top K mg) : Ok P w K mg base 1 "_law_draw" ["dice", "many"] spDraw := by
  refine ok_of T.d__law_draw sc__law_draw (fun vs H Q E h => ?_) (fun f cdv A outer s H vs Q E hr h => ?_)
  · obtain ⟨d, c, n, rfl, _⟩ := h
    rfl
  · obtain ⟨d, c, n, rfl, D, hn, hn2, k⟩ := h
    refine ⟨_, (C8.pss_cut (ps_if (PW.pt (pw_and (pt_cmpR op_eq (pe_ix ix_list (pv 0) pe_int (fun _ _ => rfl)) pe_int (nomark _)) (pw_and1 (pt_cmpR op_lt (pe_ix ix_list (pv 0) pe_int (fun _ _ => rfl)) (pe_callB (id := "len") call_len_seq (by rfl) T.b_len (by decide +kernel) (pa_cons (pe_ix ix_list (pv 0) pe_int (fun _ _ => rfl)) pa_nil)) (nomark _)))))
      (pss_cons (ps_set (i := 2) sc__law_draw.nd rfl (Or.inl rfl) (pe_ix ix_list (pe_ix ix_list (pv 0) pe_int (fun _ _ => rfl)) (pe_ix ix_list (pv 0) pe_int (fun _ _ => rfl)) (fun _ _ => rfl)))
      (pss_cons (ps_asg (pe_op op_add (pe_ix ix_list (pv 0) pe_int (fun _ _ => rfl)) pe_int) (pg_sub (pv 0) pe_int set_list))
      (pss_one (ps_if (pt_cmpR op_ge (pv 2) (pe_op op_pow pe_int pe_int) (nomark _))
      (pss_one (ps_asg (pv 2) (pg_sub (pv 0) pe_int set_list)))
      (pss_one (ps_asg (pe_op op_mod (pe_callTy (T := "int") call_int1 (by rfl) T.b_int (by decide +kernel) (pa_cons (pe_op op_add (pe_op op_add (pe_op op_mul (pe_ix ix_list (pv 0) pe_int (fun _ _ => rfl)) pe_int) (pe_op op_mul (pv 2) pe_int)) (pe_ix ix_list (pv 0) pe_int (fun _ _ => rfl))) pa_nil)) pe_int) (pg_sub (pv 0) pe_int set_list)))))))
      pss_nil)
      (C8.pss_cut (ps_if (pt_cmpR op_gt (pe_ix ix_list (pv 0) pe_int (fun _ _ => rfl)) pe_int (nomark _))
      (pss_cons (ps_set (i := 3) sc__law_draw.nd rfl (Or.inl rfl) (pe_op op_mod (pe_callTy (T := "int") call_int1 (by rfl) T.b_int (by decide +kernel) (pa_cons (pe_ix ix_list (pv 0) pe_int (fun _ _ => rfl)) pa_nil)) (pv 1)))
      (pss_cons (ps_asg (pe_op op_fdivW (pe_ix ix_list (pv 0) pe_int (fun _ _ => rfl)) (pv 1)) (pg_sub (pv 0) pe_int set_list))
      (pss_one (ps_ret (pv 3)))))
      pss_nil)
      (pss_cons (ps_asg (pe_op op_add (pe_ix ix_list (pv 0) pe_int (fun _ _ => rfl)) pe_int) (pg_sub (pv 0) pe_int set_list))
      (pss_cons (ps_asg (pe_op op_mod (pe_callTy (T := "int") call_int1 (by rfl) T.b_int (by decide +kernel) (pa_cons (pe_op op_add (pe_op op_add (pe_op op_mul (pe_ix ix_list (pv 0) pe_int (fun _ _ => rfl)) pe_int) (pe_op op_mul (pe_ix ix_list (pv 0) pe_int (fun _ _ => rfl)) pe_int)) pe_int) pa_nil)) pe_int) (pg_sub (pv 0) pe_int set_list))
      (pss_cons (ps_set (i := 4) sc__law_draw.nd rfl (Or.inl rfl) (pe_op op_mod (pe_callTy (T := "int") call_int1 (by rfl) T.b_int (by decide +kernel) (pa_cons (pe_op op_mul (pe_ix ix_list (pv 0) pe_int (fun _ _ => rfl)) (pe_op op_add (pe_op op_fdiv (pe_ix ix_list (pv 0) pe_int (fun _ _ => rfl)) pe_int) pe_int)) pa_nil)) pe_int))
      (pss_cons (ps_set (i := 4) sc__law_draw.nd rfl (Or.inl rfl) (pe_op op_mod (pe_callTy (T := "int") call_int1 (by rfl) T.b_int (by decide +kernel) (pa_cons (pe_op op_mul (pv 4) (pe_op op_add (pe_op op_fdiv (pv 4) pe_int) pe_int)) pa_nil)) pe_int))
      (pss_one (ps_ret (pe_op op_mod (pe_callTy (T := "int") call_int1 (by rfl) T.b_int (by decide +kernel) (pa_cons (pe_op op_fdiv (pv 4) pe_int) pa_nil)) (pv 1)))))))))), ?_⟩
    refine ⟨fun σ' H' => ∃ o, σ' = [some (.ref d), some (.int n), o, none, none] ∧ Keep d H H' ∧ Dice c H' d, ?_, ?_⟩
    · obtain ⟨cells, i, b, s', t, hd, hc, h0, h1, h2, h3, h4, h5⟩ := D.ex
      have ncd : c ≠ d := by
        intro z; subst z; rw [hd] at hc; injection hc with hc; injection hc with hc; cases cells <;> simp at hc
      walk_at "rr"
      refine ite2 (fun g => ?_) (fun g => ?_)
      · walk_at "rr"
        refine ite2 (fun g2 => ?_) (fun g2 => ?_)
        · have g2 := of_decide_eq_true g2
          rw [List.length_map] at g2
          obtain ⟨z, hz⟩ : ∃ z, cells[i.toNat]? = some z := ⟨_, List.getElem?_eq_getElem (by omega)⟩
          have hz0 := h0 z (List.mem_of_getElem? hz)
          have hat : atI (cells.map V.int) i = some (.int z) := by
            have := atI_nat (xs := cells.map V.int) (j := i.toNat) (v := .int z) (by rw [List.getElem?_map, hz]; rfl)
            rw [Int.toNat_of_nonneg h1] at this
            exact this
          refine ⟨_, rfl, _, _, _, _, rfl, rfl, SqL.of hd, rfl, _, rfl, d, _, _, _, rfl, rfl, SqL.of hd, rfl, c, _, i, .int z, rfl, rfl, SqL.of hc, hat, ?_⟩
          walk_at "rr"
          refine ite2 (fun g3 => ?_) (fun g3 => ?_)
          · walk_at "rr"
            rw [upd_upd]
            exact ⟨Keep.upd, ⟨cells, i + 1, z, s', t, upd_same, (upd_ne ncd).trans hc, h0, by omega, hz0, h3, h4, h5⟩⟩
          · walk_at "rr"
            rw [upd_upd]
            exact ⟨Keep.upd, ⟨cells, i + 1, b, (s' * 69621 + z * 40692 + (i + 1)) % 2147483647, t, upd_same, (upd_ne ncd).trans hc, h0, by omega, h2, by omega, by omega, h5⟩⟩
        · exact ⟨none, rfl, Keep.refl _ _, D⟩
      · exact ⟨none, rfl, Keep.refl _ _, D⟩
    · rintro σ' H1 ⟨o, rfl, kp, D1⟩
      obtain ⟨cells, i, b, s', t, hd, hc, h0, h1, h2, h3, h4, h5⟩ := D1.ex
      have ncd : c ≠ d := by
        intro z; subst z; rw [hd] at hc; injection hc with hc; injection hc with hc; cases cells <;> simp at hc
      refine ⟨fun σ' H' => σ' = [some (.ref d), some (.int n), o, none, none] ∧ H' = H1, ?_, ?_⟩
      · walk_at "rr"
        refine ite2 (fun g => ?_) (fun g => ?_)
        · have g := of_decide_eq_true g
          walk_at "rr"
          refine ⟨wide_div hn hn2 (by decide) (by decide), ?_⟩
          walk_at "rr"
          exact k _ _ (Int.emod_nonneg _ (by omega)) (Int.emod_lt_of_pos _ hn) (kp.trans Keep.upd) ⟨cells, i, b / n, s', t, upd_same, (upd_ne ncd).trans hc, h0, h1, Int.ediv_nonneg h2 (by omega), h3, h4, h5⟩
        · exact ⟨rfl, rfl⟩
      · rintro _ _ ⟨rfl, rfl⟩
        walk_at "rr"
        rw [upd_upd]
        exact k _ _ (Int.emod_nonneg _ (by omega)) (Int.emod_lt_of_pos _ hn) (kp.trans Keep.upd) ⟨cells, i, b, (s' * 48271 + (t + 1) * 7919 + 1) % 2147483647, t + 1, upd_same, (upd_ne ncd).trans hc, h0, h1, h2, by omega, by omega, by omega⟩
end
end Toy

namespace Toy
open PySem PySem.Spec PyProof.Rows L2
local macro_rules | `(tactic| walk_at "hp") => `(tactic| first
  | assumption
  | exact upd_same
  | (refine Eq.trans (upd_ne (by first | assumption | (apply Ne.symm; assumption))) ?_; walk_at "hp"))
local macro_rules | `(tactic| walk_at "side") => `(tactic| first
  | exact .inl ⟨by omega, by omega⟩
  | exact .inr ⟨by omega, by omega⟩
  | exact ⟨by omega, by omega⟩
  | (show _ ≤ _; omega)
  | (show (_ : Int) < _; omega)
  | decide
  | assumption)
local macro_rules | `(tactic| walk_at "r") => `(tactic| first
  | refine ⟨_, rfl, ?_⟩
  | refine ⟨_, _, rfl, rfl, ?_⟩
  | refine ⟨_, _, _, _, rfl, rfl, SqL.of (by walk_at "hp"), rfl, ?_⟩
  | refine ⟨_, _, _, _, rfl, rfl, SqT.of (by walk_at "hp"), rfl, ?_⟩
  | refine ⟨_, _, _, _, rfl, rfl, (by walk_at "hp"), rfl, ?_⟩
  | refine And.intro rfl ?_
  | refine ⟨_, _, rfl, SqT.of (by walk_at "hp"), ?_⟩
  | refine ⟨_, _, rfl, SqL.of (by walk_at "hp"), ?_⟩
  | refine .inl ⟨_, rfl, ?_⟩
  | refine ⟨_, _, rfl, .inl (SqL.of (by walk_at "hp")), ?_⟩
  | refine ⟨_, _, rfl, .inr (SqT.of (by walk_at "hp")), ?_⟩
  | refine ⟨_, _, rfl, .inl ⟨SqL.of (by walk_at "hp"), ?_⟩⟩
  | refine And.intro (.inl ⟨rfl, _, SqL.of (by walk_at "hp")⟩) ?_
  | refine ⟨_, _, _, rfl, rfl, (by walk_at "hp"), ?_⟩
  | refine ⟨_, _, rfl, (by walk_at "hp"), ?_⟩
  | refine And.intro (by walk_at "side") ?_)
local macro_rules | `(tactic| walk_at "rr") => `(tactic| (repeat walk_at "r"))
local macro_rules | `(tactic| walk_at "k") => `(tactic| first
  | refine ite2 (fun _ => ?_) (fun g => absurd rfl g)
  | refine ite2 (fun g => absurd g (by decide)) (fun _ => ?_)
  | refine ite2 (fun _ => ?_) (fun g => absurd (decide_eq_true (by omega)) g)
  | refine ite2 (fun g => absurd (of_decide_eq_true g) (by omega)) (fun _ => ?_)
  | refine ite2 (fun g => (nd_t g (by omega)).elim) (fun _ => ?_)
  | refine ite2 (fun _ => ?_) (fun g => absurd (nd_f g) (by omega)))
local macro_rules | `(tactic| walk_at "rk") => `(tactic| (repeat (first | walk_at "r" | walk_at "k")))
section
variable {P : Program} {w : World} {K : PySem.W.Frag} {mg : Str → Option Value} {base : Heap}
theorem ok__law_word (T : Top K mg) : Ok P w K mg base 2 "_law_word" ["dice", "most"] spWord := by
  refine ok_of T.d__law_word sc__law_word (fun vs H Q E h => ?_) (fun f cdv A outer s H vs Q E hr h => ?_)
  · obtain ⟨d, c, n, rfl, _⟩ := h
    rfl
  · obtain ⟨d, c, n, rfl, D, hn, hn2, k⟩ := h
    obtain ⟨f__law_draw, fd__law_draw, m__law_draw, k__law_draw, b__law_draw, G__law_draw⟩ := ok__law_draw (P := P) (w := w) (base := base) T
    have hr__law_draw : Room 1 _ := hr.mono (by decide)
    refine ⟨_, (pss_cons (ps_set (i := 2) sc__law_word.nd rfl (Or.inl rfl) pe_str)
      (pss_cons (ps_set (i := 3) sc__law_word.nd rfl (Or.inl rfl) pe_str)
      (pss_cons (ps_for PassesOwn.never rfl (pi_range1 (by rfl) T.b_range (pa_cons (pe_op op_add pe_int (pe_call G__law_draw hr__law_draw rfl m__law_draw k__law_draw b__law_draw .nil pass0 (pa_cons (pv 0) (pa_cons (pv 1) pa_nil)))) pa_nil)) (pg_name (i := 4) sc__law_word.nd rfl (Or.inl rfl))
      (pss_one (ps_set (i := 3) sc__law_word.nd rfl (Or.inl rfl) (pe_op op_add_str (pv 3) (pe_item_str (pv 2) (pe_call G__law_draw hr__law_draw rfl m__law_draw k__law_draw b__law_draw .nil pass0 (pa_cons (pv 0) (pa_cons pe_int pa_nil))) (fun _ _ => rfl))))))
      (pss_one (ps_ret (pv 3)))))), ?_⟩
    walk_at "rr"
    refine ⟨_, _, _, rfl, D, hn, by omega, fun v H1 v0 v1 k1 D1 => ?_⟩
    walk_at "rr"
    refine for_range (lo := 0) (n := (1 + v).toNat) (fun i σ' H2 => ∃ (z : Str) (o : Option V), σ' = [some (.ref d), some (.int n), some (.str abc), some (.str z), o] ∧ Keep d H H2 ∧ Dice c H2 d ∧ z.length = i ∧ Low z)
      ⟨_, none, rfl, k1, D1, (by decide +kernel), ⟨by decide +kernel⟩⟩ ?_ ?_
    · rintro i σ' H2 hi ⟨z, o, rfl, k2, D2, hz, hl⟩
      walk_at "rr"
      refine ⟨_, _, _, rfl, D2, by decide, by decide, fun u H3 u0 u1 k3 D3 => ?_⟩
      obtain ⟨ch, hc, c1, c2⟩ := abc_at u.toNat (by omega)
      refine ⟨_, _, ch, rfl, rfl, by omega, by omega, by rw [abc_len]; omega, hc, ?_⟩
      refine ⟨_, _, rfl, rfl, Nat.le_of_lt (small1000 (by rw [hz]; show i + 1 ≤ 1000; omega)), ?_⟩
      exact ⟨_, _, rfl, k2.trans k3, D3, by rw [len_app, hz], hl.app c1 c2⟩
    · rintro σ' H2 ⟨z, o, rfl, k2, D2, hz, hl⟩
      walk_at "rr"
      exact k _ _ ⟨by omega, by omega, hl⟩ k2 D2
end
end Toy

namespace Toy
open PySem PySem.Spec PyProof.Rows L2
local macro_rules | `(tactic| walk_at "hp") => `(tactic| first
  | assumption
  | exact upd_same
  | (refine Eq.trans (upd_ne (by first | assumption | (apply Ne.symm; assumption))) ?_; walk_at "hp"))
local macro_rules | `(tactic| walk_at "side") => `(tactic| first
  | exact .inl ⟨by omega, by omega⟩
  | exact .inr ⟨by omega, by omega⟩
  | exact ⟨by omega, by omega⟩
  | (show _ ≤ _; omega)
  | (show (_ : Int) < _; omega)
  | decide
  | assumption)
local macro_rules | `(tactic| walk_at "r") => `(tactic| first
  | refine ⟨_, rfl, ?_⟩
  | refine ⟨_, _, rfl, rfl, ?_⟩
  | refine ⟨_, _, _, _, rfl, rfl, SqL.of (by walk_at "hp"), rfl, ?_⟩
  | refine ⟨_, _, _, _, rfl, rfl, SqT.of (by walk_at "hp"), rfl, ?_⟩
  | refine ⟨_, _, _, _, rfl, rfl, (by walk_at "hp"), rfl, ?_⟩
  | refine And.intro rfl ?_
  | refine ⟨_, _, rfl, SqT.of (by walk_at "hp"), ?_⟩
  | refine ⟨_, _, rfl, SqL.of (by walk_at "hp"), ?_⟩
  | refine .inl ⟨_, rfl, ?_⟩
  | refine ⟨_, _, rfl, .inl (SqL.of (by walk_at "hp")), ?_⟩
  | refine ⟨_, _, rfl, .inr (SqT.of (by walk_at "hp")), ?_⟩
  | refine ⟨_, _, rfl, .inl ⟨SqL.of (by walk_at "hp"), ?_⟩⟩
  | refine And.intro (.inl ⟨rfl, _, SqL.of (by walk_at "hp")⟩) ?_
  | refine ⟨_, _, _, rfl, rfl, (by walk_at "hp"), ?_⟩
  | refine ⟨_, _, rfl, (by walk_at "hp"), ?_⟩
  | refine And.intro (by walk_at "side") ?_)
local macro_rules | `(tactic| walk_at "rr") => `(tactic| (repeat walk_at "r"))
local macro_rules | `(tactic| walk_at "k") => `(tactic| first
  | refine ite2 (fun _ => ?_) (fun g => absurd rfl g)
  | refine ite2 (fun g => absurd g (by decide)) (fun _ => ?_)
  | refine ite2 (fun _ => ?_) (fun g => absurd (decide_eq_true (by omega)) g)
  | refine ite2 (fun g => absurd (of_decide_eq_true g) (by omega)) (fun _ => ?_)
  | refine ite2 (fun g => (nd_t g (by omega)).elim) (fun _ => ?_)
  | refine ite2 (fun _ => ?_) (fun g => absurd (nd_f g) (by omega)))
local macro_rules | `(tactic| walk_at "rk") => `(tactic| (repeat (first | walk_at "r" | walk_at "k")))
section
variable {P : Program} {w : World} {K : PySem.W.Frag} {mg : Str → Option Value} {base : Heap}
theorem ok__law_names (T : Top K mg) : Ok P w K mg base 3 "_law_names" ["dice", "many", "most"] spNames := by
  refine ok_of T.d__law_names sc__law_names (fun vs H Q E h => ?_) (fun f cdv A outer s H vs Q E hr h => ?_)
  · obtain ⟨d, c, n, m, rfl, _⟩ := h
    rfl
  · obtain ⟨d, c, n, m, rfl, D, hn, hn2, hm, hm2, k⟩ := h
    obtain ⟨f__law_word, fd__law_word, m__law_word, k__law_word, b__law_word, G__law_word⟩ := ok__law_word (P := P) (w := w) (base := base) T
    have hr__law_word : Room 2 _ := hr.mono (by decide)
    refine ⟨_, (pss_cons (ps_set (i := 3) sc__law_names.nd rfl (Or.inl rfl) (pe_lst pa_nil))
      (pss_cons (ps_for PassesOwn.never rfl (pi_range1 (by rfl) T.b_range (pa_cons (pv 1) pa_nil)) (pg_name (i := 4) sc__law_names.nd rfl (Or.inl rfl))
      (pss_cons (ps_set (i := 5) sc__law_names.nd rfl (Or.inl rfl) (pe_call G__law_word hr__law_word rfl m__law_word k__law_word b__law_word .nil pass0 (pa_cons (pv 0) (pa_cons (pv 2) pa_nil))))
      (pss_one (ps_if (pt_cmpR op_notIn_seq (pv 5) (pv 3) rfl)
      (pss_one (ps_expr (pe_bm PySem.F.plainAttrs_list PySem.F.slot_list_append PySem.F.type_list_append mt_append (pv 3) (pa_cons (pv 5) pa_nil))))
      pss_nil))))
      (pss_one (ps_ret (pv 3))))), ?_⟩
    refine ⟨(by show 0 ≤ sizeLine; decide), fun l nl => ?_⟩
    have nld := D.ne nl
    have nlc := D.nc nl
    walk_at "rr"
    refine for_range (lo := 0) (n := n.toNat) (fun i σ' H2 => ∃ (zs : List Str) (o o' : Option V), σ' = [some (.ref d), some (.int n), some (.int m), some (.ref l), o, o'] ∧ H2 l = some (.lst (zs.map V.str)) ∧ zs.Nodup ∧ (1 ≤ i → 1 ≤ zs.length) ∧ zs.length ≤ i ∧ (∀ z ∈ zs, Name m z) ∧ Keep d H H2 ∧ Dice c H2 d)
      ⟨[], none, none, rfl, upd_same, .nil, by omega, Nat.le_refl _, (by simp), same_keep (same_new nl), D.upd nld nlc⟩ ?_ ?_
    · rintro i σ' H2 hi ⟨zs, o, o', rfl, hl, nd, h1, h2, hN, k2, D2⟩
      walk_at "rr"
      refine ⟨_, _, _, rfl, D2, hm, hm2, fun z H3 hz k3 D3 => ?_⟩
      have hl3 := k3 _ _ nld hl
      walk_at "rr"
      refine ⟨flat_str _, ?_⟩
      walk_at "rr"
      refine ite2 (fun g => ?_) (fun g => ?_)
      · have g : ¬ z ∈ zs := by
          have g : (!inV (.str z) (zs.map V.str)) = true := g
          rw [inV_str] at g
          simpa using g
        walk_at "rr"
        refine ⟨(by rw [List.length_map]; exact small1000 (by omega)), zs ++ [z], _, _, rfl, ?_, ?_, ?_, ?_, ?_, (k2.trans k3).mut nl, D3.upd nld nlc⟩
        · rw [upd_same, List.map_append]; rfl
        · exact nd_snoc nd g
        · intro _; rw [List.length_append]; exact Nat.le_add_left _ _
        · rw [List.length_append]; exact Nat.add_le_add_right h2 1
        · intro y hy
          rcases List.mem_append.mp hy with q | q
          · exact hN y q
          · rw [List.mem_singleton.mp q]; exact hz
      · have g : z ∈ zs := by
          have g : ¬ (!inV (.str z) (zs.map V.str)) = true := g
          rw [inV_str] at g
          simpa using g
        exact ⟨zs, _, _, rfl, hl3, nd, fun _ => List.length_pos_of_mem g, by omega, hN, k2.trans k3, D3⟩
    · rintro σ' H2 ⟨zs, o, o', rfl, hl, nd, h1, h2, hN, k2, D2⟩
      walk_at "rr"
      exact k l zs H2 nl hl nd (h1 (by omega)) (by omega) hN k2 D2
end
end Toy

namespace Toy
open PySem PySem.Spec PyProof.Rows L2
local macro_rules | `(tactic| walk_at "hp") => `(tactic| first
  | assumption
  | exact upd_same
  | (refine Eq.trans (upd_ne (by first | assumption | (apply Ne.symm; assumption))) ?_; walk_at "hp"))
local macro_rules | `(tactic| walk_at "side") => `(tactic| first
  | exact .inl ⟨by omega, by omega⟩
  | exact .inr ⟨by omega, by omega⟩
  | exact ⟨by omega, by omega⟩
  | (show _ ≤ _; omega)
  | (show (_ : Int) < _; omega)
  | decide
  | assumption)
local macro_rules | `(tactic| walk_at "r") => `(tactic| first
  | refine ⟨_, rfl, ?_⟩
  | refine ⟨_, _, rfl, rfl, ?_⟩
  | refine ⟨_, _, _, _, rfl, rfl, SqL.of (by walk_at "hp"), rfl, ?_⟩
  | refine ⟨_, _, _, _, rfl, rfl, SqT.of (by walk_at "hp"), rfl, ?_⟩
  | refine ⟨_, _, _, _, rfl, rfl, (by walk_at "hp"), rfl, ?_⟩
  | refine And.intro rfl ?_
  | refine ⟨_, _, rfl, SqT.of (by walk_at "hp"), ?_⟩
  | refine ⟨_, _, rfl, SqL.of (by walk_at "hp"), ?_⟩
  | refine .inl ⟨_, rfl, ?_⟩
  | refine ⟨_, _, rfl, .inl (SqL.of (by walk_at "hp")), ?_⟩
  | refine ⟨_, _, rfl, .inr (SqT.of (by walk_at "hp")), ?_⟩
  | refine ⟨_, _, rfl, .inl ⟨SqL.of (by walk_at "hp"), ?_⟩⟩
  | refine And.intro (.inl ⟨rfl, _, SqL.of (by walk_at "hp")⟩) ?_
  | refine ⟨_, _, _, rfl, rfl, (by walk_at "hp"), ?_⟩
  | refine ⟨_, _, rfl, (by walk_at "hp"), ?_⟩
  | refine And.intro (by walk_at "side") ?_)
local macro_rules | `(tactic| walk_at "rr") => `(tactic| (repeat walk_at "r"))
local macro_rules | `(tactic| walk_at "k") => `(tactic| first
  | refine ite2 (fun _ => ?_) (fun g => absurd rfl g)
  | refine ite2 (fun g => absurd g (by decide)) (fun _ => ?_)
  | refine ite2 (fun _ => ?_) (fun g => absurd (decide_eq_true (by omega)) g)
  | refine ite2 (fun g => absurd (of_decide_eq_true g) (by omega)) (fun _ => ?_)
  | refine ite2 (fun g => (nd_t g (by omega)).elim) (fun _ => ?_)
  | refine ite2 (fun _ => ?_) (fun g => absurd (nd_f g) (by omega)))
local macro_rules | `(tactic| walk_at "rk") => `(tactic| (repeat (first | walk_at "r" | walk_at "k")))
section
variable {P : Program} {w : World} {K : PySem.W.Frag} {mg : Str → Option Value} {base : Heap}
theorem ok__law_moves (T : Top K mg) : Ok P w K mg base 2 "_law_moves" ["dice", "posts", "top"] spMoves := by
  refine ok_of T.d__law_moves sc__law_moves (fun vs H Q E h => ?_) (fun f cdv A outer s H vs Q E hr h => ?_)
  · obtain ⟨d, c, n, top, rfl, _⟩ := h
    rfl
  · obtain ⟨d, c, n, top, rfl, D, hn, hn2, ht, ht2, k⟩ := h
    obtain ⟨f__law_draw, fd__law_draw, m__law_draw, k__law_draw, b__law_draw, G__law_draw⟩ := ok__law_draw (P := P) (w := w) (base := base) T
    have hr__law_draw : Room 1 _ := hr.mono (by decide)
    refine ⟨_, (pss_cons (ps_set (i := 3) sc__law_moves.nd rfl (Or.inl rfl) (pe_lst pa_nil))
      (pss_cons (ps_for PassesOwn.never rfl (pi_range1 (by rfl) T.b_range (pa_cons (pv 1) pa_nil)) (pg_name (i := 4) sc__law_moves.nd rfl (Or.inl rfl))
      (pss_cons (ps_setLc (i := 5) (own := [("b", 6)]) (g := gName 6) rfl sc__law_moves.nd rfl rfl (sw_true rfl rfl rfl (by decide +kernel)) (pi_range1 (by rfl) T.b_range (pa_cons (pv 1) pa_nil)) (blkOk_by (own := [("b", 6)]) (N := ["dice", "posts", "top", "rows", "a", "row", "b"]) (sc := defScope s__law_moves) (by decide +kernel)) (fun _ _ _ _ _ => (pg_name (i := 6) sc__law_moves.nd rfl (Or.inl rfl))) (fun _ _ _ _ _ => pts_nil) (fun _ _ _ _ _ => (pe_call G__law_draw hr__law_draw rfl m__law_draw k__law_draw b__law_draw .nil pass0 (pa_cons (pv 0) (pa_cons (pe_op op_add (pv 2) pe_int) pa_nil)))))
      (pss_cons (ps_asg pe_int (pg_sub (pv 5) (pv 4) set_list))
      (pss_one (ps_expr (pe_bm PySem.F.plainAttrs_list PySem.F.slot_list_append PySem.F.type_list_append mt_append (pv 3) (pa_cons (pe_callTy (T := "tuple") call_tuple_of (by rfl) T.b_tuple (by decide +kernel) (pa_cons (pv 5) pa_nil)) pa_nil)))))))
      (pss_one (ps_ret (pe_callTy (T := "tuple") call_tuple_of (by rfl) T.b_tuple (by decide +kernel) (pa_cons (pv 3) pa_nil)))))), ?_⟩
    refine ⟨(by show 0 ≤ sizeLine; decide), fun l nl => ?_⟩
    have nld := D.ne nl
    have nlc := D.nc nl
    walk_at "rr"
    refine for_range (lo := 0) (n := n.toNat) (fun i σ' H2 => ∃ (as : List V) (rows : List (List Int)) (o o' : Option V), σ' = [some (.ref d), some (.int n), some (.int top), some (.ref l), o, o', none] ∧ H2 l = some (.lst as) ∧ Paired (IntT H2) as rows ∧ rows.length = i ∧
        (∀ r ∈ rows, (r.length : Int) = n ∧ ∀ x ∈ r, 0 ≤ x ∧ x ≤ top) ∧ (∀ (j : Nat) r, rows[j]? = some r → r[j]? = some 0) ∧ Keep d H H2 ∧ Dice c H2 d)
      ⟨[], [], none, none, rfl, upd_same, .nil, rfl, (by simp), (by simp), same_keep (same_new nl), D.upd nld nlc⟩ ?_ ?_
    · rintro i σ' H2 hi ⟨as, rows, o, o', rfl, hl, hp, e1, e2, e3, k2, D2⟩
      walk_at "rr"
      intro L nL
      have nLd := D2.ne nL
      have nLc := D2.nc nL
      have nLl : l ≠ L := ne_of_none hl nL
      refine lc_range (lo := 0) (n := n.toNat) (fun j H3 => ∃ xs : List Int, H3 L = some (.lst (xs.map V.int)) ∧ xs.length = j ∧ (∀ x ∈ xs, 0 ≤ x ∧ x ≤ top) ∧ Keep d H2 H3 ∧ Dice c H3 d)
        ⟨[], upd_same, rfl, (by simp), same_keep (same_new nL), D2.upd nLd nLc⟩ ?_ ?_
      · rintro j H3 hj ⟨xs, hL, f1, f2, k3, D3⟩
        refine ⟨rfl, ?_⟩
        refine yesT ?_
        walk_at "rr"
        refine ⟨_, c, _, rfl, D3, by omega, by omega, fun v H4 v0 v1 k4 D4 => ?_⟩
        refine ⟨_, k4 _ _ nLd hL, ?_, xs ++ [v], ?_, ?_, ?_, (k3.trans k4).mut nL, D4.upd nLd nLc⟩
        · rw [List.length_map]; exact small1000 (by omega)
        · rw [upd_same, List.map_append]; rfl
        · rw [List.length_append, f1]; rfl
        · intro x hx
          rcases List.mem_append.mp hx with q | q
          · exact f2 x q
          · rw [List.mem_singleton.mp q]; omega
      · rintro H3 ⟨xs, hL, f1, f2, k3, D3⟩
        have hi2 : i < n.toNat := hi
        refine ⟨_, rfl, _, rfl, L, _, _, i, rfl, rfl, hL, ?_, ?_⟩
        · unfold ixN
          rw [List.length_map, if_pos (by omega), if_pos (by omega)]
          congr 1
          omega
        have hl3 : H3 l = some (.lst as) := k3 _ _ nld hl
        walk_at "rr"
        intro t nt
        have nt3 : H3 t = none := by
          by_cases e : t = L
          · subst e; rw [upd_same] at nt; cases nt
          · rw [upd_ne e] at nt; exact nt
        have ntl : t ≠ l := ne_of_none hl3 nt3 |>.symm
        have ntd := D3.ne nt3
        have ntc := D3.nc nt3
        have ntL : t ≠ L := ne_of_none hL nt3 |>.symm
        walk_at "rr"
        refine ⟨Nat.lt_of_le_of_lt (Nat.le_of_eq ?_) (small1000 (n := i) (by omega)), as ++ [.ref t], rows ++ [xs.set i 0], _, _, rfl, upd_same, ?_, ?_, ?_, ?_, ?_, ?_⟩
        · rw [prd_len hp, e1]
        · refine Paired.snoc (prd_imp hp fun x y r => IntT.firm H2 _ x y (fun a xs' e => ?_) r) ⟨t, rfl, ?_⟩
          · have e4 : H3 a = some (.tup xs') := k3.tup D2 e
            rw [upd_ne (ne_of e4 hl3 (by intro z; cases z)), upd_ne (ne_of_none e4 nt3), upd_ne (ne_of e4 hL (by intro z; cases z))]
            exact e4
          · rw [upd_ne ntl, upd_same, List.map_set]
        · rw [List.length_append, e1]; rfl
        · intro r hr
          rcases List.mem_append.mp hr with q | q
          · exact e2 r q
          · rw [List.mem_singleton.mp q, List.length_set, f1]
            refine ⟨by omega, fun x hx => ?_⟩
            rcases List.mem_or_eq_of_mem_set hx with q | q
            · exact f2 x q
            · rw [q]; omega
        · intro j r hj
          by_cases e : j < rows.length
          · rw [List.getElem?_append_left e] at hj
            exact e3 j r hj
          · have e5 : j = rows.length := by
              have := (List.getElem?_eq_some_iff.mp hj).1
              rw [List.length_append] at this
              simp at this
              omega
            subst e5
            rw [List.getElem?_append_right (Nat.le_refl _), Nat.sub_self] at hj
            have hj : xs.set i 0 = r := Option.some.inj hj
            rw [← hj, e1, List.getElem?_set_self (by omega)]
        · refine Keep.mut (Keep.mut (Keep.mut (k2.trans k3) (k2.free nLd nL)) (k2.free ntd (k3.free ntd nt3))) nl
        · exact ((D3.upd nLd nLc).upd ntd ntc).upd nld nlc
    · rintro σ' H2 ⟨as, rows, o, o', rfl, hl, hp, e1, e2, e3, k2, D2⟩
      walk_at "rr"
      intro t nt
      walk_at "rr"
      refine k _ rows _ ⟨t, _, rfl, upd_same, prd_imp hp fun x y r => IntT.firm H2 _ x y (same_tups (same_new nt)) r⟩ ⟨by omega, e2, e3⟩ (k2.mut (k2.free (D2.ne nt) nt)) (D2.upd (D2.ne nt) (D2.nc nt))
theorem ok__law_prices (T : Top K mg) : Ok P w K mg base 2 "_law_prices" ["dice", "posts", "top"] spPrices := by
  refine ok_of T.d__law_prices sc__law_prices (fun vs H Q E h => ?_) (fun f cdv A outer s H vs Q E hr h => ?_)
  · obtain ⟨d, c, n, top, rfl, _⟩ := h
    rfl
  · obtain ⟨d, c, n, top, rfl, D, hn, hn2, ht, ht2, k⟩ := h
    obtain ⟨f__law_draw, fd__law_draw, m__law_draw, k__law_draw, b__law_draw, G__law_draw⟩ := ok__law_draw (P := P) (w := w) (base := base) T
    have hr__law_draw : Room 1 _ := hr.mono (by decide)
    refine ⟨_, (pss_cons (ps_set (i := 3) sc__law_prices.nd rfl (Or.inl rfl) (pe_lst pa_nil))
      (pss_cons (ps_for PassesOwn.never rfl (pi_range1 (by rfl) T.b_range (pa_cons (pv 1) pa_nil)) (pg_name (i := 4) sc__law_prices.nd rfl (Or.inl rfl))
      (pss_cons (ps_set (i := 5) sc__law_prices.nd rfl (Or.inl rfl) (pe_call G__law_draw hr__law_draw rfl m__law_draw k__law_draw b__law_draw .nil pass0 (pa_cons (pv 0) (pa_cons (pe_op op_add (pv 2) pe_int) pa_nil))))
      (C8.pss_cut (ps_if (pt_cmpR op_gt (pv 5) (pv 2) (nomark _))
      (pss_one (ps_set (i := 5) sc__law_prices.nd rfl (Or.inl rfl) pe_non))
      pss_nil)
      (pss_one (ps_expr (pe_bm PySem.F.plainAttrs_list PySem.F.slot_list_append PySem.F.type_list_append mt_append (pv 3) (pa_cons (pv 5) pa_nil)))))))
      (pss_cons (ps_set (i := 6) sc__law_prices.nd rfl (Or.inl rfl) (pe_call G__law_draw hr__law_draw rfl m__law_draw k__law_draw b__law_draw .nil pass0 (pa_cons (pv 0) (pa_cons (pv 1) pa_nil))))
      (C8.pss_cut (ps_if (pt_cmpR op_eq (pe_bm PySem.F.plainAttrs_list PySem.F.slot_list_count PySem.F.type_list_count mt_countV (pv 3) (pa_cons pe_non pa_nil)) (pv 1) (nomark _))
      (pss_one (ps_asg (pe_call G__law_draw hr__law_draw rfl m__law_draw k__law_draw b__law_draw .nil pass0 (pa_cons (pv 0) (pa_cons (pe_op op_add (pv 2) pe_int) pa_nil))) (pg_sub (pv 3) (pv 6) set_list)))
      pss_nil)
      (pss_one (ps_ret (pe_callTy (T := "tuple") call_tuple_of (by rfl) T.b_tuple (by decide +kernel) (pa_cons (pv 3) pa_nil)))))))), ?_⟩
    refine ⟨(by show 0 ≤ sizeLine; decide), fun l nl => ?_⟩
    have nld := D.ne nl
    have nlc := D.nc nl
    walk_at "rr"
    refine for_range (lo := 0) (n := n.toNat) (fun i σ' H2 => ∃ (xs : List (Option Int)) (o o' : Option V), σ' = [some (.ref d), some (.int n), some (.int top), some (.ref l), o, o', none] ∧ H2 l = some (.lst (xs.map vO)) ∧ xs.length = i ∧ (∀ x, some x ∈ xs → 0 ≤ x ∧ x ≤ top) ∧ Keep d H H2 ∧ Dice c H2 d)
      ⟨[], none, none, rfl, upd_same, rfl, (by simp), same_keep (same_new nl), D.upd nld nlc⟩ ?_ ?_
    · rintro i σ' H2 hi ⟨xs, o, o', rfl, hl, e1, e2, k2, D2⟩
      walk_at "rr"
      refine ⟨_, c, _, rfl, D2, by omega, by omega, fun v H3 v0 v1 k3 D3 => ?_⟩
      have hl3 := k3 _ _ nld hl
      refine ⟨fun σ' H' => H' = H3 ∧ ∃ (x : Option Int) (o : Option V), σ' = [some (.ref d), some (.int n), some (.int top), some (.ref l), o, some (vO x), none] ∧ (∀ y, x = some y → 0 ≤ y ∧ y ≤ top), ?_, ?_⟩
      · walk_at "rr"
        refine ite2 (fun g => ?_) (fun g => ?_)
        · exact ⟨rfl, none, _, rfl, fun y hy => by cases hy⟩
        · have g : ¬ top < v := fun z => g (decide_eq_true z)
          exact ⟨rfl, some v, _, rfl, fun y hy => by cases hy; omega⟩
      · rintro σ' H' ⟨rfl, x, o, rfl, hx⟩
        walk_at "rr"
        refine ⟨by rw [List.length_map]; exact small1000 (by omega), xs ++ [x], _, _, rfl, ?_, ?_, ?_, (k2.trans k3).mut nl, D3.upd nld nlc⟩
        · rw [upd_same, List.map_append]; rfl
        · rw [List.length_append, e1]; rfl
        · intro y hy
          rcases List.mem_append.mp hy with q | q
          · exact e2 y q
          · exact hx y (List.mem_singleton.mp q).symm
    · rintro σ' H2 ⟨xs, o, o', rfl, hl, e1, e2, k2, D2⟩
      walk_at "rr"
      refine ⟨_, c, _, rfl, D2, by omega, by omega, fun v H3 v0 v1 k3 D3 => ?_⟩
      have hl3 := k3 _ _ nld hl
      refine ⟨fun σ' H' => ∃ (xs' : List (Option Int)), σ' = [some (.ref d), some (.int n), some (.int top), some (.ref l), o, o', some (.int v)] ∧ H' l = some (.lst (xs'.map vO)) ∧ Prices n top xs' ∧ Keep d H H' ∧ Dice c H' d, ?_, ?_⟩
      · walk_at "rr"
        refine ⟨l, _, .non, rfl, rfl, SqL.of hl3, flat_vO _, rfl, ?_⟩
        rw [cnt_non]
        walk_at "rr"
        refine ite2 (fun g => ?_) (fun g => ?_)
        · walk_at "rr"
          refine ⟨_, c, _, rfl, D3, by omega, by omega, fun u H4 u0 u1 k4 D4 => ?_⟩
          have hl4 := k4 _ _ nld hl3
          refine ⟨_, rfl, _, rfl, l, _, _, v.toNat, rfl, rfl, hl4, ?_, ?_⟩
          · unfold ixN
            rw [List.length_map, if_pos (by omega), if_pos (by omega)]
          refine ⟨xs.set v.toNat (some u), rfl, ?_, ⟨?_, ?_, ?_⟩, (k2.trans (k3.trans k4)).mut nl, D4.upd nld nlc⟩
          · rw [upd_same, List.map_set]; rfl
          · rw [List.length_set]; omega
          · intro x hx
            rcases List.mem_or_eq_of_mem_set hx with q | q
            · exact e2 x q
            · cases q; omega
          · exact ⟨u, List.mem_iff_getElem?.mpr ⟨v.toNat, List.getElem?_set_self (by omega)⟩⟩
        · refine ⟨xs, rfl, hl3, ⟨by omega, e2, ?_⟩, k2.trans k3, D3⟩
          refine Classical.byContradiction fun hno => g ?_
          have hc : xs.countP (fun y => y.isNone) = xs.length := List.countP_eq_length.mpr fun y hy => by
            cases y with
            | none => rfl
            | some y => exact (hno ⟨y, hy⟩).elim
          rw [hc, e1]
          refine decide_eq_true ?_
          rw [Int.toNat_of_nonneg (by omega)]
      · rintro σ' H' ⟨xs', rfl, hl', hP, k4, D4⟩
        walk_at "rr"
        intro t nt
        walk_at "rr"
        exact k _ xs' _ ⟨t, rfl, upd_same⟩ hP (k4.mut (k4.free (D4.ne nt) nt)) (D4.upd (D4.ne nt) (D4.nc nt))
theorem ok__law_requests (T : Top K mg) : Ok P w K mg base 3 "_law_requests" ["dice", "names", "posts", "top"] (spRequests K) := by
  refine ok_of T.d__law_requests sc__law_requests (fun vs H Q E h => ?_) (fun f cdv A outer s H vs Q E hr h => ?_)
  · obtain ⟨d, c, l, zs, n, top, rfl, _⟩ := h
    rfl
  · obtain ⟨d, c, l, zs, n, top, rfl, D, hl, hz, nld, nd, hn, hn2, ht, ht2, k⟩ := h
    obtain ⟨f__law_prices, fd__law_prices, m__law_prices, k__law_prices, b__law_prices, G__law_prices⟩ := ok__law_prices (P := P) (w := w) (base := base) T
    have hr__law_prices : Room 2 _ := hr.mono (by decide)
    have hu := hu_of hr
    refine ⟨_, (pss_cons (ps_set (i := 4) sc__law_requests.nd rfl (Or.inl rfl) pe_dnewK)
      (pss_cons (ps_for PassesOwn.never rfl (pi_list (pv 1)) (pg_name (i := 5) sc__law_requests.nd rfl (Or.inl rfl))
      (pss_one (ps_dput hu (pv 4) (pv 5) (pe_call G__law_prices hr__law_prices rfl m__law_prices k__law_prices b__law_prices .nil pass0 (pa_cons (pv 0) (pa_cons (pv 2) (pa_cons (pv 3) pa_nil)))) rfl)))
      (pss_one (ps_ret (pv 4))))), ?_⟩
    intro p np
    have npd := D.ne np
    have npc := D.nc np
    have npl : p ≠ l := (ne_of_none hl np).symm
    walk_at "rr"
    refine ⟨⟨_, SqL.of ((upd_ne npl.symm).trans hl)⟩, ?_⟩
    refine for_list (K := K) (a := l) (xs := zs.map V.str) (fun i σ' H2 => ∃ (kvs : List (Key × V)) (rs : List (Str × List (Option Int))) (o : Option V), σ' = [some (.ref d), some (.ref l), some (.int n), some (.int top), some (.ref p), o] ∧
        H2 p = some (.dK kvs) ∧ H2 l = some (.lst (zs.map V.str)) ∧ DctOf OptT H2 kvs rs ∧ rs.map (·.1) = zs.take i ∧ (∀ q ∈ rs, Prices n top q.2) ∧ Keep d H H2 ∧ Dice c H2 d)
      ⟨[], [], none, rfl, upd_same, (upd_ne npl.symm).trans hl, .nil, by simp, (by simp), same_keep (same_new np), D.upd npd npc⟩ (fun i σ' H2 _ ⟨_, _, _, _, _, q, _⟩ => SqL.of q) ?_ ?_
    · rintro i x σ' H2 hi ⟨kvs, rs, o, rfl, hp, hl2, hR, e1, e2, k2, D2⟩
      obtain ⟨z, hz2, rfl⟩ : ∃ z, zs[i]? = some z ∧ V.str z = x := by
        rw [List.getElem?_map] at hi
        cases e : zs[i]? with
        | none => rw [e] at hi; cases hi
        | some z => rw [e] at hi; exact ⟨z, rfl, Option.some.inj hi⟩
      have hil := (List.getElem?_eq_some_iff.mp hz2).1
      walk_at "rr"
      refine ⟨_, c, _, _, rfl, D2, hn, hn2, ht, ht2, fun v row H3 hv hP k3 D3 => ?_⟩
      have hp3 := k3 _ _ npd hp
      have hl3 := k3 _ _ nld hl2
      have hR3 := hR.firm OptT.firm (keep_tups k3 D2)
      have hno : ¬ z ∈ rs.map (·.1) := by
        rw [e1]
        intro m
        obtain ⟨j, hj, ej⟩ := List.getElem_of_mem m
        rw [List.getElem_take] at ej
        rw [List.length_take] at hj
        have h2 := (List.getElem?_eq_some_iff.mp hz2).2
        have := (List.getElem_inj nd).mp (ej.trans h2.symm)
        omega
      have hkl : kvs.length ≤ i := by
        rw [dct_len hR, ← List.length_map (f := (·.1)), e1, List.length_take]; omega
      walk_at "rr"
      refine ⟨p, _, rfl, DPut.k (k := Sum.inr z) hp3 (small1000 (by omega)), ?_⟩
      rw [putK_new _ (dct_none hR3 hno)]
      have hRn : DctOf OptT (upd H3 p (.dK (kvs ++ [(Sum.inr z, v)]))) kvs rs := hR3.firm OptT.firm fun a xs' e => by
        rw [upd_ne (ne_of e hp3 (by intro z; cases z))]; exact e
      have hvn : OptT (upd H3 p (.dK (kvs ++ [(Sum.inr z, v)]))) v row := OptT.firm H3 _ _ _ (fun a xs' e => by
        rw [upd_ne (ne_of e hp3 (by intro z; cases z))]; exact e) hv
      refine ⟨_, rs ++ [(z, row)], _, rfl, upd_same, (upd_ne npl.symm).trans hl3, Paired.snoc hRn ⟨rfl, hvn⟩, ?_, ?_, (k2.trans k3).mut np, D3.upd npd npc⟩
      · rw [List.map_append, e1, List.take_add_one, hz2]; rfl
      · intro q hq
        rcases List.mem_append.mp hq with m | m
        · exact e2 q m
        · rw [List.mem_singleton.mp m]; exact hP
    · rintro σ' H2 ⟨kvs, rs, o, rfl, hp, hl2, hR, e1, e2, k2, D2⟩
      walk_at "rr"
      exact k p kvs rs H2 np hp hR (by rw [e1, List.length_map, List.take_length]) e2 k2 D2
end
end Toy

namespace Toy
open PySem PySem.Spec PyProof.Rows L2
local macro_rules | `(tactic| walk_at "hp") => `(tactic| first
  | assumption
  | exact upd_same
  | (refine Eq.trans (upd_ne (by first | assumption | (apply Ne.symm; assumption))) ?_; walk_at "hp"))
local macro_rules | `(tactic| walk_at "side") => `(tactic| first
  | exact .inl ⟨by omega, by omega⟩
  | exact .inr ⟨by omega, by omega⟩
  | exact ⟨by omega, by omega⟩
  | (show _ ≤ _; omega)
  | (show (_ : Int) < _; omega)
  | decide
  | assumption)
local macro_rules | `(tactic| walk_at "r") => `(tactic| first
  | refine ⟨_, rfl, ?_⟩
  | refine ⟨_, _, rfl, rfl, ?_⟩
  | refine ⟨_, _, _, _, rfl, rfl, SqL.of (by walk_at "hp"), rfl, ?_⟩
  | refine ⟨_, _, _, _, rfl, rfl, SqT.of (by walk_at "hp"), rfl, ?_⟩
  | refine ⟨_, _, _, _, rfl, rfl, (by walk_at "hp"), rfl, ?_⟩
  | refine And.intro rfl ?_
  | refine ⟨_, _, rfl, SqT.of (by walk_at "hp"), ?_⟩
  | refine ⟨_, _, rfl, SqL.of (by walk_at "hp"), ?_⟩
  | refine .inl ⟨_, rfl, ?_⟩
  | refine ⟨_, _, rfl, .inl (SqL.of (by walk_at "hp")), ?_⟩
  | refine ⟨_, _, rfl, .inr (SqT.of (by walk_at "hp")), ?_⟩
  | refine ⟨_, _, rfl, .inl ⟨SqL.of (by walk_at "hp"), ?_⟩⟩
  | refine And.intro (.inl ⟨rfl, _, SqL.of (by walk_at "hp")⟩) ?_
  | refine ⟨_, _, _, rfl, rfl, (by walk_at "hp"), ?_⟩
  | refine ⟨_, _, rfl, (by walk_at "hp"), ?_⟩
  | refine And.intro (by walk_at "side") ?_)
local macro_rules | `(tactic| walk_at "rr") => `(tactic| (repeat walk_at "r"))
local macro_rules | `(tactic| walk_at "k") => `(tactic| first
  | refine ite2 (fun _ => ?_) (fun g => absurd rfl g)
  | refine ite2 (fun g => absurd g (by decide)) (fun _ => ?_)
  | refine ite2 (fun _ => ?_) (fun g => absurd (decide_eq_true (by omega)) g)
  | refine ite2 (fun g => absurd (of_decide_eq_true g) (by omega)) (fun _ => ?_)
  | refine ite2 (fun g => (nd_t g (by omega)).elim) (fun _ => ?_)
  | refine ite2 (fun _ => ?_) (fun g => absurd (nd_f g) (by omega)))
local macro_rules | `(tactic| walk_at "rk") => `(tactic| (repeat (first | walk_at "r" | walk_at "k")))
theorem isTup_noG {K : PySem.W.Frag} {H : Hp} {m : Int} {v : V} {n : String} (h : TyG K H v n) (hn : (n == "tuple") = false) : isTup H m v = false := by
  cases h with
  | blt h => exact isTup_no h hn
  | ins h _ _ => unfold isTup; simp only [h]
  | err h _ => unfold isTup ExO at *; simp only [h]
theorem tyG_blt {K : PySem.W.Frag} {H : Hp} {v : V} {n : String} (h : TyG K H v n) (e : n ≠ "object") : tyN H v = some n := by
  cases h with
  | blt h => exact h
  | ins _ _ _ => exact absurd rfl e
  | err _ _ => exact absurd rfl e
theorem tyG_tup {K : PySem.W.Frag} {H : Hp} {v : V} (h : TyG K H v "tuple") : ∃ a xs, v = .ref a ∧ H a = some (.tup xs) := tyN_tup (tyG_blt h (by decide))
theorem isOf_tup (n : String) : isOf n "tuple" = (n == "tuple") := by unfold isOf; simp
theorem isOf_str (n : String) : isOf n "str" = (n == "str") := by unfold isOf; simp
theorem isOf_bool (n : String) : isOf n "bool" = (n == "bool") := by unfold isOf; simp
def spTupG (K : PySem.W.Frag) : Sp := fun vs H Q _ => ∃ (v : V) (n : String) (m : Int), vs = [v, .int m] ∧ TyG K H v n ∧ Q (.bl (isTup H m v)) H
section
variable {P : Program} {w : World} {K : PySem.W.Frag} {mg : Str → Option Value} {base : Heap}
theorem okG_is_tuple_of (T : Top K mg) : Ok P w K mg base 1 "is_tuple_of" ["thing", "many"] (spTupG K) := by
  refine ok_of T.d_is_tuple_of sc_is_tuple_of (fun vs H Q E h => ?_) (fun f cdv A outer s H vs Q E hr h => ?_)
  · obtain ⟨v, n, m, rfl, _⟩ := h
    rfl
  · obtain ⟨v, n, m, rfl, hn, k⟩ := h
    refine ⟨_, (pss_one (ps_ret (pe_and (pe_callB (id := "isinstance") (call_isG (T := "tuple") (by simp [six])) (by rfl) T.b_isinstance (by decide +kernel) (pa_cons (pv 0) (pa_cons (pe_bltn (v := .ty "tuple") (u := .type "tuple") (by rfl) T.b_tuple (by decide +kernel) rfl) pa_nil))) (pe_one (pe_cmpR op_eq (pe_callB call_len_seq (by rfl) T.b_len (by decide +kernel) (pa_cons (pv 0) pa_nil)) (pv 1) (nomark _)))))), ?_⟩
    refine ⟨_, rfl, _, n, rfl, hn, _, rfl, ?_⟩
    rw [isOf_tup]
    refine ite2 (fun g => ?_) (fun g => ?_)
    · have g := beq_iff_eq.mp g
      subst g
      obtain ⟨a, xs, rfl, ha⟩ := tyG_tup hn
      have e : isTup H m (.ref a) = decide ((xs.length : Int) = m) := by unfold isTup; simp only [ha]
      rw [e] at k
      walk_at "rr"
      rw [dec_int]
      exact k
    · rw [isTup_noG hn (by simpa using g)] at k
      exact k
theorem ok_is_tuple_of (T : Top K mg) : Ok P w K mg base 1 "is_tuple_of" ["thing", "many"] spIsTupleOf := by
  obtain ⟨f, fd, m, k, b, F⟩ := okG_is_tuple_of (P := P) (w := w) (base := base) T
  exact ⟨f, fd, m, k, b, F.imp fun vs H Q E ⟨v, n, i, e, h, q⟩ => ⟨v, n, i, e, .blt h, q⟩⟩
end
end Toy

namespace Toy
open PySem PySem.Spec PyProof.Rows L2
local macro_rules | `(tactic| walk_at "hp") => `(tactic| first
  | assumption
  | exact upd_same
  | (refine Eq.trans (upd_ne (by first | assumption | (apply Ne.symm; assumption))) ?_; walk_at "hp"))
local macro_rules | `(tactic| walk_at "side") => `(tactic| first
  | exact .inl ⟨by omega, by omega⟩
  | exact .inr ⟨by omega, by omega⟩
  | exact ⟨by omega, by omega⟩
  | (show _ ≤ _; omega)
  | (show (_ : Int) < _; omega)
  | decide
  | assumption)
local macro_rules | `(tactic| walk_at "r") => `(tactic| first
  | refine ⟨_, rfl, ?_⟩
  | refine ⟨_, _, rfl, rfl, ?_⟩
  | refine ⟨_, _, _, _, rfl, rfl, SqL.of (by walk_at "hp"), rfl, ?_⟩
  | refine ⟨_, _, _, _, rfl, rfl, SqT.of (by walk_at "hp"), rfl, ?_⟩
  | refine ⟨_, _, _, _, rfl, rfl, (by walk_at "hp"), rfl, ?_⟩
  | refine And.intro rfl ?_
  | refine ⟨_, _, rfl, SqT.of (by walk_at "hp"), ?_⟩
  | refine ⟨_, _, rfl, SqL.of (by walk_at "hp"), ?_⟩
  | refine .inl ⟨_, rfl, ?_⟩
  | refine ⟨_, _, rfl, .inl (SqL.of (by walk_at "hp")), ?_⟩
  | refine ⟨_, _, rfl, .inr (SqT.of (by walk_at "hp")), ?_⟩
  | refine ⟨_, _, rfl, .inl ⟨SqL.of (by walk_at "hp"), ?_⟩⟩
  | refine And.intro (.inl ⟨rfl, _, SqL.of (by walk_at "hp")⟩) ?_
  | refine ⟨_, _, _, rfl, rfl, (by walk_at "hp"), ?_⟩
  | refine ⟨_, _, rfl, (by walk_at "hp"), ?_⟩
  | refine And.intro (by walk_at "side") ?_)
local macro_rules | `(tactic| walk_at "rr") => `(tactic| (repeat walk_at "r"))
local macro_rules | `(tactic| walk_at "k") => `(tactic| first
  | refine ite2 (fun _ => ?_) (fun g => absurd rfl g)
  | refine ite2 (fun g => absurd g (by decide)) (fun _ => ?_)
  | refine ite2 (fun _ => ?_) (fun g => absurd (decide_eq_true (by omega)) g)
  | refine ite2 (fun g => absurd (of_decide_eq_true g) (by omega)) (fun _ => ?_)
  | refine ite2 (fun g => (nd_t g (by omega)).elim) (fun _ => ?_)
  | refine ite2 (fun _ => ?_) (fun g => absurd (nd_f g) (by omega)))
local macro_rules | `(tactic| walk_at "rk") => `(tactic| (repeat (first | walk_at "r" | walk_at "k")))
section
variable {P : Program} {w : World} {K : PySem.W.Frag} {mg : Str → Option Value} {base : Heap}
theorem ok_is_integer (T : Top K mg) : Ok P w K mg base 1 "is_integer" ["thing"] spIsInteger := by
  refine ok_of T.d_is_integer sc_is_integer (fun vs H Q E h => ?_) (fun f cdv A outer s H vs Q E hr h => ?_)
  · obtain ⟨v, n, rfl, _⟩ := h
    rfl
  · obtain ⟨v, n, rfl, hn, k⟩ := h
    refine ⟨_, (pss_one (ps_ret (pe_and (pe_callB (id := "isinstance") (call_isN (T := "int")) (by rfl) T.b_isinstance (by decide +kernel) (pa_cons (pv 0) (pa_cons (pe_bltn (v := .ty "int") (u := .type "int") (by rfl) T.b_int (by decide +kernel) rfl) pa_nil))) (pe_one (pe_not (pe_callB (id := "isinstance") (call_isN (T := "bool")) (by rfl) T.b_isinstance (by decide +kernel) (pa_cons (pv 0) (pa_cons (pe_bltn (v := .ty "bool") (u := .type "bool") (by rfl) T.b_bool (by decide +kernel) rfl) pa_nil)))))))), ?_⟩
    refine ⟨_, rfl, _, n, _, rfl, hn, kit7 hn (T := "int") (by simp), _, rfl, ?_⟩
    refine ite2 (fun g => ?_) (fun g => ?_)
    · refine ⟨_, rfl, _, n, _, rfl, hn, kit7 hn (T := "bool") (by simp), _, rfl, ?_⟩
      have e : (!(n == "bool" || n == "bool" && "bool" == "int")) = isI v := by
        rw [← isI_n hn]
        simp only [Bool.or_eq_true, Bool.and_eq_true, beq_iff_eq] at g
        rcases g with g | g
        · subst g; rfl
        · rw [g.1]; rfl
      rw [e]; exact k
    · have e : isI v = false := by
        rw [← isI_n hn]
        simp only [Bool.or_eq_true, Bool.and_eq_true, beq_iff_eq, not_or] at g
        simp [g.1]
      rw [e] at k; exact k
theorem ok_is_natural (T : Top K mg) : Ok P w K mg base 2 "is_natural" ["thing"] spIsNatural := by
  refine ok_of T.d_is_natural sc_is_natural (fun vs H Q E h => ?_) (fun f cdv A outer s H vs Q E hr h => ?_)
  · obtain ⟨v, n, rfl, _⟩ := h
    rfl
  · obtain ⟨v, n, rfl, hn, k⟩ := h
    obtain ⟨f_is_integer, fd_is_integer, m_is_integer, k_is_integer, b_is_integer, G_is_integer⟩ := ok_is_integer (P := P) (w := w) (base := base) T
    have hr_is_integer : Room 1 _ := hr.mono (by decide)
    refine ⟨_, (pss_one (ps_ret (pe_and (pe_call G_is_integer hr_is_integer rfl m_is_integer k_is_integer b_is_integer .nil pass0 (pa_cons (pv 0) pa_nil)) (pe_one (pe_cmpR op_ge (pv 0) pe_int (nomark _)))))), ?_⟩
    refine ⟨_, rfl, _, n, rfl, hn, _, rfl, ?_⟩
    refine ite2 (fun g => ?_) (fun g => ?_)
    · obtain ⟨i, rfl⟩ : ∃ i, v = .int i := by cases v <;> first | exact ⟨_, rfl⟩ | cases g
      walk_at "rr"
      exact k
    · rw [isNat_no (by simpa using g)] at k
      exact k
theorem ok_is_below (T : Top K mg) : Ok P w K mg base 3 "is_below" ["thing", "many"] spIsBelow := by
  refine ok_of T.d_is_below sc_is_below (fun vs H Q E h => ?_) (fun f cdv A outer s H vs Q E hr h => ?_)
  · obtain ⟨v, n, m, rfl, _⟩ := h
    rfl
  · obtain ⟨v, n, m, rfl, hn, k⟩ := h
    obtain ⟨f_is_natural, fd_is_natural, m_is_natural, k_is_natural, b_is_natural, G_is_natural⟩ := ok_is_natural (P := P) (w := w) (base := base) T
    have hr_is_natural : Room 2 _ := hr.mono (by decide)
    refine ⟨_, (pss_one (ps_ret (pe_and (pe_call G_is_natural hr_is_natural rfl m_is_natural k_is_natural b_is_natural .nil pass0 (pa_cons (pv 0) pa_nil)) (pe_one (pe_cmpR op_lt (pv 0) (pv 1) (nomark _)))))), ?_⟩
    refine ⟨_, rfl, _, n, rfl, hn, _, rfl, ?_⟩
    refine ite2 (fun g => ?_) (fun g => ?_)
    · obtain ⟨i, rfl⟩ : ∃ i, v = .int i := by cases v <;> first | exact ⟨_, rfl⟩ | cases g
      have g : 0 ≤ i := of_decide_eq_true g
      walk_at "rr"
      have e : isBelow m (.int i) = decide (i < m) := by
        show decide (0 ≤ i ∧ i < m) = _
        simp [g]
      rw [e] at k; exact k
    · rw [isBelow_no (by simpa using g)] at k
      exact k
theorem ok__is_price (T : Top K mg) : Ok P w K mg base 4 "_is_price" ["thing"] spIsPrice := by
  refine ok_of T.d__is_price sc__is_price (fun vs H Q E h => ?_) (fun f cdv A outer s H vs Q E hr h => ?_)
  · obtain ⟨v, n, rfl, _⟩ := h
    rfl
  · obtain ⟨v, n, rfl, hn, k⟩ := h
    obtain ⟨t_MOST_PRICE, g_MOST_PRICE⟩ := T.g_MOST_PRICE
    obtain ⟨f_is_below, fd_is_below, m_is_below, k_is_below, b_is_below, G_is_below⟩ := ok_is_below (P := P) (w := w) (base := base) T
    have hr_is_below : Room 3 _ := hr.mono (by decide)
    refine ⟨_, (pss_one (ps_ret (pe_call G_is_below hr_is_below rfl m_is_below k_is_below b_is_below .nil pass0 (pa_cons (pv 0) (pa_cons (pe_op op_add (pe_glob (v := .int 9) rfl g_MOST_PRICE ⟨_, rfl⟩) pe_int) pa_nil))))), ?_⟩
    walk_at "rr"
    exact ⟨_, n, _, rfl, hn, k⟩
theorem ok__law_is_integer (T : Top K mg) : Ok P w K mg base 1 "_law_is_integer" ["thing"] spIsInteger := by
  refine ok_of T.d__law_is_integer sc__law_is_integer (fun vs H Q E h => ?_) (fun f cdv A outer s H vs Q E hr h => ?_)
  · obtain ⟨v, n, rfl, _⟩ := h
    rfl
  · obtain ⟨v, n, rfl, hn, k⟩ := h
    refine ⟨_, (pss_one (ps_ret (pe_and (pe_callB (id := "isinstance") (call_isN (T := "int")) (by rfl) T.b_isinstance (by decide +kernel) (pa_cons (pv 0) (pa_cons (pe_bltn (v := .ty "int") (u := .type "int") (by rfl) T.b_int (by decide +kernel) rfl) pa_nil))) (pe_one (pe_not (pe_callB (id := "isinstance") (call_isN (T := "bool")) (by rfl) T.b_isinstance (by decide +kernel) (pa_cons (pv 0) (pa_cons (pe_bltn (v := .ty "bool") (u := .type "bool") (by rfl) T.b_bool (by decide +kernel) rfl) pa_nil)))))))), ?_⟩
    refine ⟨_, rfl, _, n, _, rfl, hn, kit7 hn (T := "int") (by simp), _, rfl, ?_⟩
    refine ite2 (fun g => ?_) (fun g => ?_)
    · refine ⟨_, rfl, _, n, _, rfl, hn, kit7 hn (T := "bool") (by simp), _, rfl, ?_⟩
      have e : (!(n == "bool" || n == "bool" && "bool" == "int")) = isI v := by
        rw [← isI_n hn]
        simp only [Bool.or_eq_true, Bool.and_eq_true, beq_iff_eq] at g
        rcases g with g | g
        · subst g; rfl
        · rw [g.1]; rfl
      rw [e]; exact k
    · have e : isI v = false := by
        rw [← isI_n hn]
        simp only [Bool.or_eq_true, Bool.and_eq_true, beq_iff_eq, not_or] at g
        simp [g.1]
      rw [e] at k; exact k
end
end Toy

namespace Toy
open PySem PySem.Spec PyProof.Rows L2
local macro_rules | `(tactic| walk_at "hp") => `(tactic| first
  | assumption
  | exact upd_same
  | (refine Eq.trans (upd_ne (by first | assumption | (apply Ne.symm; assumption))) ?_; walk_at "hp"))
local macro_rules | `(tactic| walk_at "side") => `(tactic| first
  | exact .inl ⟨by omega, by omega⟩
  | exact .inr ⟨by omega, by omega⟩
  | exact ⟨by omega, by omega⟩
  | (show _ ≤ _; omega)
  | (show (_ : Int) < _; omega)
  | decide
  | assumption)
local macro_rules | `(tactic| walk_at "r") => `(tactic| first
  | refine ⟨_, rfl, ?_⟩
  | refine ⟨_, _, rfl, rfl, ?_⟩
  | refine ⟨_, _, _, _, rfl, rfl, SqL.of (by walk_at "hp"), rfl, ?_⟩
  | refine ⟨_, _, _, _, rfl, rfl, SqT.of (by walk_at "hp"), rfl, ?_⟩
  | refine ⟨_, _, _, _, rfl, rfl, (by walk_at "hp"), rfl, ?_⟩
  | refine And.intro rfl ?_
  | refine ⟨_, _, rfl, SqT.of (by walk_at "hp"), ?_⟩
  | refine ⟨_, _, rfl, SqL.of (by walk_at "hp"), ?_⟩
  | refine .inl ⟨_, rfl, ?_⟩
  | refine ⟨_, _, rfl, .inl (SqL.of (by walk_at "hp")), ?_⟩
  | refine ⟨_, _, rfl, .inr (SqT.of (by walk_at "hp")), ?_⟩
  | refine ⟨_, _, rfl, .inl ⟨SqL.of (by walk_at "hp"), ?_⟩⟩
  | refine And.intro (.inl ⟨rfl, _, SqL.of (by walk_at "hp")⟩) ?_
  | refine ⟨_, _, _, rfl, rfl, (by walk_at "hp"), ?_⟩
  | refine ⟨_, _, rfl, (by walk_at "hp"), ?_⟩
  | refine And.intro (by walk_at "side") ?_)
local macro_rules | `(tactic| walk_at "rr") => `(tactic| (repeat walk_at "r"))
local macro_rules | `(tactic| walk_at "k") => `(tactic| first
  | refine ite2 (fun _ => ?_) (fun g => absurd rfl g)
  | refine ite2 (fun g => absurd g (by decide)) (fun _ => ?_)
  | refine ite2 (fun _ => ?_) (fun g => absurd (decide_eq_true (by omega)) g)
  | refine ite2 (fun g => absurd (of_decide_eq_true g) (by omega)) (fun _ => ?_)
  | refine ite2 (fun g => (nd_t g (by omega)).elim) (fun _ => ?_)
  | refine ite2 (fun _ => ?_) (fun g => absurd (nd_f g) (by omega)))
local macro_rules | `(tactic| walk_at "rk") => `(tactic| (repeat (first | walk_at "r" | walk_at "k")))
section
variable {P : Program} {w : World} {K : PySem.W.Frag} {mg : Str → Option Value} {base : Heap}
theorem ok_is_name (T : Top K mg) : Ok P w K mg base 1 "is_name" ["thing"] spIsName := by
  refine ok_of T.d_is_name sc_is_name (fun vs H Q E h => ?_) (fun f cdv A outer s H vs Q E hr h => ?_)
  · obtain ⟨v, n, rfl, _⟩ := h
    rfl
  · obtain ⟨v, n, rfl, hn, hl, k⟩ := h
    obtain ⟨t_LETTERS, g_LETTERS⟩ := T.g_LETTERS
    refine ⟨_, (pss_one (ps_ret (pe_and (pe_callB (id := "isinstance") (call_isN (T := "str")) (by rfl) T.b_isinstance (by decide +kernel) (pa_cons (pv 0) (pa_cons (pe_bltn (v := .ty "str") (u := .type "str") (by rfl) T.b_str (by decide +kernel) rfl) pa_nil))) (pe_and (pe_chain op_le op_le pe_int (pe_callB call_len_str (by rfl) T.b_len (by decide +kernel) (pa_cons (pv 0) pa_nil)) pe_int) (pe_one (pe_callB (id := "all") (cr_all rfl) (by rfl) T.b_all (by decide +kernel) (pa_cons (pe_lc (own := [("letter", 1)]) (g := gName 1) rfl sc_is_name.nd (pi_str (pv 0)) (blkOk_by (own := [("letter", 1)]) (N := ["thing", "letter"]) (sc := defScope s_is_name) (by decide +kernel)) (fun _ _ _ _ _ => (pg_name (i := 1) sc_is_name.nd rfl (Or.inl rfl))) (fun _ _ _ _ _ => pts_nil) (fun _ _ _ _ _ => (pe_cmpR op_in_sign (pv 1) (pe_glob (v := .str "abcdefghijklmnopqrstuvwxyz") rfl g_LETTERS ⟨_, rfl⟩) rfl))) pa_nil))))))), ?_⟩
    refine ⟨_, rfl, _, n, _, rfl, hn, kit7 hn (T := "str") (by simp), _, rfl, ?_⟩
    have e0 : (n == "str" || n == "bool" && "str" == "int") = (n == "str") := by simp
    rw [e0]
    refine ite2 (fun g => ?_) (fun g => ?_)
    · have g := beq_iff_eq.mp g
      subst g
      obtain ⟨z, rfl⟩ := tyN_str hn
      have hz := hl z rfl
      have dom : isNm (.str z) = decide (1 ≤ z.length ∧ z.length ≤ 8 ∧ ∀ c ∈ z.cps.toList, 97 ≤ c ∧ c ≤ 122) := rfl
      walk_at "rr"
      refine ite2 (fun g => ?_) (fun g => ?_)
      · have g : 1 ≤ (z.length : Int) := of_decide_eq_true g
        walk_at "rr"
        refine ite2 (fun g2 => ?_) (fun g2 => ?_)
        · have g2 : (z.length : Int) ≤ 8 := of_decide_eq_true g2
          walk_at "rr"
          intro D nD
          have hsz : z.cps.size = z.length := rfl
          refine lc_it walk_str (fun i H2 => H2 D = some (.lst (((z.cps.toList.take i).map fun c => decide (97 ≤ c ∧ c ≤ 122)).map V.bl)) ∧ Same H H2) ⟨upd_same, same_new nD⟩ (fun _ _ _ _ => True.intro) ?_ ?_
          · rintro i x H2 H3 hi ⟨e1, e2⟩ ⟨rfl, ch, hc, rfl⟩
            refine ⟨rfl, ?_⟩
            refine yesT ?_
            refine ⟨_, rfl, ch, _, rfl, rfl, _, e1, ?_, ?_, ?_⟩
            · rw [List.length_map, List.length_map, List.length_take]; exact small1000 (by omega)
            · rw [upd_same, abc_mem]
              have hc' : z.cps.toList[i]? = some ch := by rw [Array.getElem?_toList]; exact hc
              rw [List.take_add_one, hc', List.map_append, List.map_append]
              rfl
            · intro b o hb
              rw [upd_ne (ne_of_none hb nD)]
              exact e2 b o hb
          · rintro H2 ⟨e1, e2⟩
            refine ⟨D, _, rfl, SqL.of e1, ?_⟩
            have hall : ((List.take z.cps.size z.cps.toList).map fun c => decide (97 ≤ c ∧ c ≤ 122)).all id = isNm (.str z) := by
              rw [dom, show z.cps.size = z.cps.toList.length from (Array.length_toList).symm, List.take_length]
              rw [List.all_map]
              by_cases hq : ∀ c ∈ z.cps.toList, 97 ≤ c ∧ c ≤ 122
              · rw [decide_eq_true ⟨by omega, by omega, hq⟩, List.all_eq_true]
                intro c hc
                exact decide_eq_true (hq c hc)
              · rw [decide_eq_false fun z => hq z.2.2]
                refine Bool.eq_false_iff.mpr fun hh => hq fun c hc => ?_
                exact of_decide_eq_true (List.all_eq_true.mp hh c hc)
            rw [hall]
            exact k H2 e2
        · have e : isNm (.str z) = false := by
            rw [dom]; exact decide_eq_false fun q => g2 (decide_eq_true (by omega))
          rw [e] at k; exact k _ (Same.refl _)
      · have e : isNm (.str z) = false := by
          rw [dom]; exact decide_eq_false fun q => g (decide_eq_true (by omega))
        rw [e] at k; exact ⟨_, rfl, ite2 (fun q => by cases q) (fun _ => k _ (Same.refl _))⟩
    · have e : isNm v = false := by
        cases v with
        | str z => exact absurd (Option.some.inj hn) (fun q => g (by rw [← q]; rfl))
        | _ => rfl
      rw [e] at k; exact k _ (Same.refl _)
end
end Toy

namespace Toy
open PySem PySem.Spec PyProof.Rows L2
local macro_rules | `(tactic| walk_at "hp") => `(tactic| first
  | assumption
  | exact upd_same
  | (refine Eq.trans (upd_ne (by first | assumption | (apply Ne.symm; assumption))) ?_; walk_at "hp"))
local macro_rules | `(tactic| walk_at "side") => `(tactic| first
  | exact .inl ⟨by omega, by omega⟩
  | exact .inr ⟨by omega, by omega⟩
  | exact ⟨by omega, by omega⟩
  | (show _ ≤ _; omega)
  | (show (_ : Int) < _; omega)
  | decide
  | assumption)
local macro_rules | `(tactic| walk_at "r") => `(tactic| first
  | refine ⟨_, rfl, ?_⟩
  | refine ⟨_, _, rfl, rfl, ?_⟩
  | refine ⟨_, _, _, _, rfl, rfl, SqL.of (by walk_at "hp"), rfl, ?_⟩
  | refine ⟨_, _, _, _, rfl, rfl, SqT.of (by walk_at "hp"), rfl, ?_⟩
  | refine ⟨_, _, _, _, rfl, rfl, (by walk_at "hp"), rfl, ?_⟩
  | refine And.intro rfl ?_
  | refine ⟨_, _, rfl, SqT.of (by walk_at "hp"), ?_⟩
  | refine ⟨_, _, rfl, SqL.of (by walk_at "hp"), ?_⟩
  | refine .inl ⟨_, rfl, ?_⟩
  | refine ⟨_, _, rfl, .inl (SqL.of (by walk_at "hp")), ?_⟩
  | refine ⟨_, _, rfl, .inr (SqT.of (by walk_at "hp")), ?_⟩
  | refine ⟨_, _, rfl, .inl ⟨SqL.of (by walk_at "hp"), ?_⟩⟩
  | refine And.intro (.inl ⟨rfl, _, SqL.of (by walk_at "hp")⟩) ?_
  | refine ⟨_, _, _, rfl, rfl, (by walk_at "hp"), ?_⟩
  | refine ⟨_, _, rfl, (by walk_at "hp"), ?_⟩
  | refine And.intro (by walk_at "side") ?_)
local macro_rules | `(tactic| walk_at "rr") => `(tactic| (repeat walk_at "r"))
local macro_rules | `(tactic| walk_at "k") => `(tactic| first
  | refine ite2 (fun _ => ?_) (fun g => absurd rfl g)
  | refine ite2 (fun g => absurd g (by decide)) (fun _ => ?_)
  | refine ite2 (fun _ => ?_) (fun g => absurd (decide_eq_true (by omega)) g)
  | refine ite2 (fun g => absurd (of_decide_eq_true g) (by omega)) (fun _ => ?_)
  | refine ite2 (fun g => (nd_t g (by omega)).elim) (fun _ => ?_)
  | refine ite2 (fun _ => ?_) (fun g => absurd (nd_f g) (by omega)))
local macro_rules | `(tactic| walk_at "rk") => `(tactic| (repeat (first | walk_at "r" | walk_at "k")))
section
variable {P : Program} {w : World} {K : PySem.W.Frag} {mg : Str → Option Value} {base : Heap}
theorem ok_is_moves (T : Top K mg) : Ok P w K mg base 5 "is_moves" ["thing"] spIsMoves := by
  refine ok_of T.d_is_moves sc_is_moves (fun vs H Q E h => ?_) (fun f cdv A outer s H vs Q E hr h => ?_)
  · obtain ⟨v, rows, n, top, rfl, _⟩ := h
    rfl
  · obtain ⟨v, rows, n, top, rfl, ⟨a, vs, rfl, ha, hp⟩, S, h1, h6, h9, k⟩ := h
    obtain ⟨t_MOST_POSTS, g_MOST_POSTS⟩ := T.g_MOST_POSTS
    obtain ⟨f__is_price, fd__is_price, m__is_price, k__is_price, b__is_price, G__is_price⟩ := ok__is_price (P := P) (w := w) (base := base) T
    have hr__is_price : Room 4 _ := hr.mono (by decide)
    obtain ⟨f_is_tuple_of, fd_is_tuple_of, m_is_tuple_of, k_is_tuple_of, b_is_tuple_of, G_is_tuple_of⟩ := ok_is_tuple_of (P := P) (w := w) (base := base) T
    have hr_is_tuple_of : Room 1 _ := hr.mono (by decide)
    have hl : (vs.length : Int) = n := by rw [prd_len hp]; exact S.len
    refine ⟨_, (pss_cons (ps_if (PW.pt (pw_or (pt_not (pt_val (pe_callB (id := "isinstance") (call_isN (T := "tuple")) (by rfl) T.b_isinstance (by decide +kernel) (pa_cons (pv 0) (pa_cons (pe_bltn (v := .ty "tuple") (u := .type "tuple") (by rfl) T.b_tuple (by decide +kernel) rfl) pa_nil))))) (pw_or1 (pt_not (pt_chain op_le op_le pe_int (pe_callB (id := "len") call_len_seq (by rfl) T.b_len (by decide +kernel) (pa_cons (pv 0) pa_nil)) (pe_glob (v := .int 6) rfl g_MOST_POSTS ⟨_, rfl⟩))))))
      (pss_one (ps_ret pe_bl))
      pss_nil)
      (pss_cons (ps_for PassesOwn.never rfl (pi_enumT (by rfl) T.b_enumerate (pa_cons (pv 0) pa_nil)) (pg_tup rfl (pgs_cons (pg_name (i := 1) sc_is_moves.nd rfl (Or.inl rfl)) (pgs_cons (pg_name (i := 2) sc_is_moves.nd rfl (Or.inl rfl)) pgs_nil)))
      (pss_cons (ps_if (PW.pt (pw_or (pt_not (pt_val (pe_call G_is_tuple_of hr_is_tuple_of rfl m_is_tuple_of k_is_tuple_of b_is_tuple_of .nil pass0 (pa_cons (pv 2) (pa_cons (pe_callB (id := "len") call_len_seq (by rfl) T.b_len (by decide +kernel) (pa_cons (pv 0) pa_nil)) pa_nil))))) (pw_or1 (pt_not (pt_val (pe_callB (id := "all") (cr_all rfl) (by rfl) T.b_all (by decide +kernel) (pa_cons (pe_lc (own := [("price", 3)]) (g := gName 3) rfl sc_is_moves.nd (pi_tup (pv 2)) (blkOk_by (own := [("price", 3)]) (N := ["thing", "post", "prices", "price"]) (sc := defScope s_is_moves) (by decide +kernel)) (fun _ _ _ _ _ => (pg_name (i := 3) sc_is_moves.nd rfl (Or.inl rfl))) (fun _ _ _ _ _ => pts_nil) (fun _ _ _ _ _ => (pe_call G__is_price hr__is_price rfl m__is_price k__is_price b__is_price .nil pass0 (pa_cons (pv 3) pa_nil)))) pa_nil)))))))
      (pss_one (ps_ret pe_bl))
      pss_nil)
      (pss_one (ps_if (pt_cmpR op_ne (pe_ix ix_tup (pv 2) (pv 1) (fun _ _ => rfl)) pe_int (nomark _))
      (pss_one (ps_ret pe_bl))
      pss_nil))))
      (pss_one (ps_ret pe_bl)))), ?_⟩
    have hty : tyN H (.ref a) = some "tuple" := by unfold tyN; simp only [ha]
    refine ⟨_, rfl, _, "tuple", _, rfl, hty, kit7 hty (by simp), _, rfl, ?_⟩
    refine ite2 (fun g => by simp at g) (fun _ => ?_)
    walk_at "rk"
    refine for_it walk_enumT (fun i σ' H2 => Same H H2 ∧ ∃ o o' : Option V, σ' = [some (.ref a), o, o', none]) ⟨Same.refl _, none, none, rfl⟩ (fun i σ' H2 _ h2 => SqT.of (h2.1 _ _ ha)) ?_ ?_
    · rintro i x σ' H2 H3 hi ⟨e2, o, o', rfl⟩ ⟨p, x', y', rfl, np, rfl, e3, e4⟩
      obtain ⟨row, hrow, b, rfl, hb⟩ := prd_at1 hp e4
      have hb2 := e2 _ _ hb
      have npb : b ≠ p := ne_of_none hb2 np
      have hrm := S.row row (List.mem_of_getElem? hrow)
      cases e3
      refine ⟨p, _, rfl, SqT.of upd_same, rfl, _, _, rfl, _, _, rfl, rfl, ?_⟩
      have hb3 : (upd H2 p (.tup [.int (i : Nat), .ref b])) b = some (.tup (row.map V.int)) := (upd_ne npb).trans hb2
      have ha3 : (upd H2 p (.tup [.int (i : Nat), .ref b])) a = some (.tup vs) := (upd_ne (ne_of_none (e2 _ _ ha) np)).trans (e2 _ _ ha)
      have hrl : (row.length : Int) = vs.length := by rw [hrm.1, hl]
      have hi2 : i < vs.length := hi
      walk_at "rk"
      refine ⟨_, "tuple", _, rfl, ty_tup hb3, ?_⟩
      rw [tup_isTup hb3 (by rw [List.length_map]; exact hrl)]
      walk_at "rk"
      refine ⟨⟨_, SqT.of hb3⟩, ?_⟩
      intro D nD
      have hrow100 : row.length ≤ 6 := by omega
      refine lc_tup (K := K) (a := b) (xs := row.map V.int) (fun j H4 => H4 D = some (.lst ((List.replicate j true).map V.bl)) ∧ Same (upd H2 p (.tup [.int (i : Nat), .ref b])) H4) ⟨upd_same, same_new nD⟩ (fun j H4 _ h4 => SqT.of (h4.2 _ _ hb3)) ?_ ?_
      · rintro j z H4 hj ⟨q1, q2⟩
        obtain ⟨y, hy, rfl⟩ := map_at hj
        have hjl := (List.getElem?_eq_some_iff.mp hy).1
        have hym := hrm.2 y (List.mem_of_getElem? hy)
        refine ⟨rfl, ?_⟩
        refine yesT ?_
        walk_at "rr"
        rw [below_int hym.1 (by omega)]
        refine ⟨_, q1, ?_, ?_, same_upd q2 nD⟩
        · rw [List.length_map, List.length_replicate]; exact small1000 (by omega)
        · rw [upd_same, rep_snoc]
      · rintro H4 ⟨q1, q2⟩
        walk_at "rr"
        rw [rep_all]
        walk_at "rk"
        have hd0 := S.diag i row hrow
        refine ⟨b, _, (i : Nat), .int 0, rfl, rfl, SqT.of (q2 _ _ hb3), atI_nat (by rw [List.getElem?_map, hd0]; rfl), ?_⟩
        walk_at "rk"
        exact ⟨(same_upd e2 (e2.free np)).trans q2, _, _, rfl⟩
    · rintro σ' H2 ⟨e2, o, o', rfl⟩
      walk_at "rk"
      exact k H2 e2
theorem ok__is_prices (T : Top K mg) : Ok P w K mg base 5 "_is_prices" ["thing", "posts"] spIsPrices := by
  refine ok_of T.d__is_prices sc__is_prices (fun vs H Q E h => ?_) (fun f cdv A outer s H vs Q E hr h => ?_)
  · obtain ⟨v, row, n, top, rfl, _⟩ := h
    rfl
  · obtain ⟨v, row, n, top, rfl, ⟨a, rfl, ha⟩, S, h6, h9, k⟩ := h
    obtain ⟨f_is_tuple_of, fd_is_tuple_of, m_is_tuple_of, k_is_tuple_of, b_is_tuple_of, G_is_tuple_of⟩ := ok_is_tuple_of (P := P) (w := w) (base := base) T
    have hr_is_tuple_of : Room 1 _ := hr.mono (by decide)
    obtain ⟨f__is_price, fd__is_price, m__is_price, k__is_price, b__is_price, G__is_price⟩ := ok__is_price (P := P) (w := w) (base := base) T
    have hr__is_price : Room 4 _ := hr.mono (by decide)
    have hl : (row.length : Int) = n := S.len
    refine ⟨_, (pss_cons (ps_if (pt_not (pt_val (pe_call G_is_tuple_of hr_is_tuple_of rfl m_is_tuple_of k_is_tuple_of b_is_tuple_of .nil pass0 (pa_cons (pv 0) (pa_cons (pv 1) pa_nil)))))
      (pss_one (ps_ret pe_bl))
      pss_nil)
      (pss_cons (ps_setLc (i := 2) (own := [("price", 3)]) (g := gName 3) rfl sc__is_prices.nd rfl rfl (sw_true rfl rfl rfl (by decide +kernel)) (pi_tup (pv 0)) (blkOk_by (own := [("price", 3)]) (N := ["thing", "posts", "told", "price"]) (sc := defScope s__is_prices) (by decide +kernel)) (fun _ _ _ _ _ => (pg_name (i := 3) sc__is_prices.nd rfl (Or.inl rfl))) (fun _ _ _ _ _ => (pts_one (pt_cmpR op_notN (pv 3) pe_non (nomark _)))) (fun _ _ _ _ _ => (pv 3)))
      (pss_one (ps_ret (pe_and (pe_cmpR op_gt (pe_callB (id := "len") call_len_seq (by rfl) T.b_len (by decide +kernel) (pa_cons (pv 2) pa_nil)) pe_int (nomark _)) (pe_one (pe_callB (id := "all") (cr_all rfl) (by rfl) T.b_all (by decide +kernel) (pa_cons (pe_lc (own := [("price", 3)]) (g := gName 3) rfl sc__is_prices.nd (pi_list (pv 2)) (blkOk_by (own := [("price", 3)]) (N := ["thing", "posts", "told", "price"]) (sc := defScope s__is_prices) (by decide +kernel)) (fun _ _ _ _ _ => (pg_name (i := 3) sc__is_prices.nd rfl (Or.inl rfl))) (fun _ _ _ _ _ => pts_nil) (fun _ _ _ _ _ => (pe_call G__is_price hr__is_price rfl m__is_price k__is_price b__is_price .nil pass0 (pa_cons (pv 3) pa_nil)))) pa_nil)))))))), ?_⟩
    walk_at "rr"
    refine ⟨_, "tuple", _, rfl, ty_tup ha, ?_⟩
    rw [tup_isTup ha (by rw [List.length_map]; exact hl)]
    walk_at "rk"
    refine ⟨⟨_, SqT.of ha⟩, ?_⟩
    intro D nD
    refine lc_tup (K := K) (a := a) (xs := row.map vO) (fun i H2 => H2 D = some (.lst (((row.take i).filterMap id).map V.int)) ∧ Same H H2) ⟨upd_same, same_new nD⟩ (fun i H2 _ h2 => SqT.of (h2.2 _ _ ha)) ?_ ?_
    · rintro i x H2 hi ⟨e1, e2⟩
      obtain ⟨o, ho, rfl⟩ := map_at hi
      have hil := (List.getElem?_eq_some_iff.mp ho).1
      refine ⟨rfl, ?_⟩
      cases o with
      | none =>
        refine ⟨_, rfl, rfl, _, rfl, ite2 (fun g => absurd g (by decide)) (fun _ => ⟨?_, e2⟩)⟩
        rw [e1, List.take_add_one, ho, List.filterMap_append]
        simp
      | some y =>
        refine ⟨_, rfl, rfl, _, rfl, ite2 (fun _ => ?_) (fun g => absurd rfl g)⟩
        refine ⟨_, rfl, _, e1, ?_, ?_, same_upd e2 nD⟩
        · rw [List.length_map]
          exact small1000 (Nat.le_trans (List.length_filterMap_le _ _) (by rw [List.length_take]; omega))
        · rw [upd_same, List.take_add_one, ho, List.filterMap_append, List.map_append]
          rfl
    · rintro H2 ⟨e1, e2⟩
      rw [List.length_map, List.take_length] at e1
      obtain ⟨ns, hns⟩ : ∃ ns, row.filterMap id = ns := ⟨_, rfl⟩
      rw [hns] at e1
      have hpos : 0 < ns.length := by
        obtain ⟨x, hx⟩ := S.some
        have : x ∈ ns := by rw [← hns]; exact List.mem_filterMap.mpr ⟨some x, hx, rfl⟩
        exact List.length_pos_of_mem this
      have hlen : ns.length ≤ 6 := by
        rw [← hns]
        exact Nat.le_trans (List.length_filterMap_le _ _) (by omega)
      have hin : ∀ y ∈ ns, 0 ≤ y ∧ y ≤ top := fun y hy => by
        rw [← hns] at hy
        obtain ⟨o, ho, e⟩ := List.mem_filterMap.mp hy
        have e : o = some y := e
        subst e
        exact S.rng y ho
      walk_at "rk"
      rw [List.length_map]
      walk_at "rk"
      refine ⟨⟨_, SqL.of e1⟩, ?_⟩
      intro L nL
      refine lc_list (K := K) (a := D) (xs := ns.map V.int) (fun j H4 => H4 L = some (.lst ((List.replicate j true).map V.bl)) ∧ Same H2 H4) ⟨upd_same, same_new nL⟩ (fun j H4 _ h4 => SqL.of (h4.2 _ _ e1)) ?_ ?_
      · rintro j z H4 hj ⟨q1, q2⟩
        obtain ⟨y, hy, rfl⟩ := map_at hj
        have hjl := (List.getElem?_eq_some_iff.mp hy).1
        have hym := hin y (List.mem_of_getElem? hy)
        refine ⟨rfl, ?_⟩
        refine yesT ?_
        walk_at "rr"
        rw [below_int hym.1 (by omega)]
        refine ⟨_, q1, ?_, ?_, same_upd q2 nL⟩
        · rw [List.length_map, List.length_replicate]; exact small1000 (by omega)
        · rw [upd_same, rep_snoc]
      · rintro H4 ⟨q1, q2⟩
        walk_at "rr"
        rw [rep_all]
        exact k H4 (e2.trans q2)
end
end Toy

namespace Toy
open PySem PySem.Spec PyProof.Rows L2
local macro_rules | `(tactic| walk_at "hp") => `(tactic| first
  | assumption
  | exact upd_same
  | (refine Eq.trans (upd_ne (by first | assumption | (apply Ne.symm; assumption))) ?_; walk_at "hp"))
local macro_rules | `(tactic| walk_at "side") => `(tactic| first
  | exact .inl ⟨by omega, by omega⟩
  | exact .inr ⟨by omega, by omega⟩
  | exact ⟨by omega, by omega⟩
  | (show _ ≤ _; omega)
  | (show (_ : Int) < _; omega)
  | decide
  | assumption)
local macro_rules | `(tactic| walk_at "r") => `(tactic| first
  | refine ⟨_, rfl, ?_⟩
  | refine ⟨_, _, rfl, rfl, ?_⟩
  | refine ⟨_, _, _, _, rfl, rfl, SqL.of (by walk_at "hp"), rfl, ?_⟩
  | refine ⟨_, _, _, _, rfl, rfl, SqT.of (by walk_at "hp"), rfl, ?_⟩
  | refine ⟨_, _, _, _, rfl, rfl, (by walk_at "hp"), rfl, ?_⟩
  | refine And.intro rfl ?_
  | refine ⟨_, _, rfl, SqT.of (by walk_at "hp"), ?_⟩
  | refine ⟨_, _, rfl, SqL.of (by walk_at "hp"), ?_⟩
  | refine .inl ⟨_, rfl, ?_⟩
  | refine ⟨_, _, rfl, .inl (SqL.of (by walk_at "hp")), ?_⟩
  | refine ⟨_, _, rfl, .inr (SqT.of (by walk_at "hp")), ?_⟩
  | refine ⟨_, _, rfl, .inl ⟨SqL.of (by walk_at "hp"), ?_⟩⟩
  | refine And.intro (.inl ⟨rfl, _, SqL.of (by walk_at "hp")⟩) ?_
  | refine ⟨_, _, _, rfl, rfl, (by walk_at "hp"), ?_⟩
  | refine ⟨_, _, rfl, (by walk_at "hp"), ?_⟩
  | refine And.intro (by walk_at "side") ?_)
local macro_rules | `(tactic| walk_at "rr") => `(tactic| (repeat walk_at "r"))
local macro_rules | `(tactic| walk_at "k") => `(tactic| first
  | refine ite2 (fun _ => ?_) (fun g => absurd rfl g)
  | refine ite2 (fun g => absurd g (by decide)) (fun _ => ?_)
  | refine ite2 (fun _ => ?_) (fun g => absurd (decide_eq_true (by omega)) g)
  | refine ite2 (fun g => absurd (of_decide_eq_true g) (by omega)) (fun _ => ?_)
  | refine ite2 (fun g => (nd_t g (by omega)).elim) (fun _ => ?_)
  | refine ite2 (fun _ => ?_) (fun g => absurd (nd_f g) (by omega)))
local macro_rules | `(tactic| walk_at "rk") => `(tactic| (repeat (first | walk_at "r" | walk_at "k")))
section
variable {P : Program} {w : World} {K : PySem.W.Frag} {mg : Str → Option Value} {base : Heap}
theorem ok__is_requests (T : Top K mg) : Ok P w K mg base 6 "_is_requests" ["thing", "posts"] spIsRequests := by
  refine ok_of T.d__is_requests sc__is_requests (fun vs H Q E h => ?_) (fun f cdv A outer s H vs Q E hr h => ?_)
  · obtain ⟨d, kvs, rs, n, top, rfl, _⟩ := h
    rfl
  · obtain ⟨d, kvs, rs, n, top, rfl, hd, hR, nd, h1, h5, hP, h6, h9, k⟩ := h
    obtain ⟨t_MOST_REQUESTS, g_MOST_REQUESTS⟩ := T.g_MOST_REQUESTS
    obtain ⟨f__is_prices, fd__is_prices, m__is_prices, k__is_prices, b__is_prices, G__is_prices⟩ := ok__is_prices (P := P) (w := w) (base := base) T
    have hr__is_prices : Room 5 _ := hr.mono (by decide)
    obtain ⟨f_is_name, fd_is_name, m_is_name, k_is_name, b_is_name, G_is_name⟩ := ok_is_name (P := P) (w := w) (base := base) T
    have hr_is_name : Room 1 _ := hr.mono (by decide)
    have hu := hu_of hr
    have hl : kvs.length = rs.length := dct_len hR
    refine ⟨_, (pss_cons (ps_if (PW.pt (pw_or (pt_not (pt_val (pe_callB (id := "isinstance") (call_isN (T := "dict")) (by rfl) T.b_isinstance (by decide +kernel) (pa_cons (pv 0) (pa_cons (pe_bltn (v := .ty "dict") (u := .type "dict") (by rfl) T.b_dict (by decide +kernel) rfl) pa_nil))))) (pw_or1 (pt_not (pt_chain op_le op_le pe_int (pe_callB (id := "len") call_lenD (by rfl) T.b_len (by decide +kernel) (pa_cons (pv 0) pa_nil)) (pe_glob (v := .int 5) rfl g_MOST_REQUESTS ⟨_, rfl⟩))))))
      (pss_one (ps_ret pe_bl))
      pss_nil)
      (pss_one (ps_ret (pe_callB (id := "all") (cr_all rfl) (by rfl) T.b_all (by decide +kernel) (pa_cons (pe_lock (pe_lc (own := [("name", 2)]) (g := gName 2) rfl sc__is_requests.nd (pi_keys (pv 0)) (blkOk_by (own := [("name", 2)]) (N := ["thing", "posts", "name"]) (sc := defScope s__is_requests) (by decide +kernel)) (fun _ _ _ _ _ => (pg_name (i := 2) sc__is_requests.nd rfl (Or.inl rfl))) (fun _ _ _ _ _ => pts_nil) (fun _ _ _ _ _ => (pe_and (pe_call G_is_name hr_is_name rfl m_is_name k_is_name b_is_name .nil pass0 (pa_cons (pv 2) pa_nil)) (pe_one (pe_call G__is_prices hr__is_prices rfl m__is_prices k__is_prices b__is_prices .nil pass0 (pa_cons (pe_dget hu (pv 0) (pv 2) (fun _ _ => rfl)) (pa_cons (pv 1) pa_nil)))))))) pa_nil))))), ?_⟩
    refine ⟨_, rfl, _, "dict", _, rfl, ty_dK hd, kit7 (ty_dK hd) (by simp), _, rfl, ?_⟩
    walk_at "rk"
    refine ⟨d, _, hd, True.intro, fun od => ?_⟩
    refine ⟨_, rfl, d, od, rfl, .inl ⟨kvs, upd_same, fun D nD => ?_⟩⟩
    have nDd : D ≠ d := fun q => by subst q; rw [upd_same] at nD; cases nD
    have nDH : H D = none := by rw [upd_ne nDd] at nD; exact nD
    refine lc_it walk_keys (fun i H2 => H2 D = some (.lst ((List.replicate i true).map V.bl)) ∧ Same (upd H d (.frz od (.dK kvs))) H2) ⟨upd_same, same_new nD⟩ (fun i H2 _ h2 => h2.2 _ _ upd_same) ?_ ?_
    · rintro i x H2 H3 hi ⟨q1, q2⟩ ⟨rfl, ky, v, hkv, rfl⟩
      obtain ⟨⟨z, row⟩, hrow, ek, _⟩ := prd_at1 hR hkv
      have ek : ky = .inr z := ek
      subst ek
      have hm := List.mem_of_getElem? hrow
      have hPz := hP _ hm
      obtain ⟨v', hv', hO⟩ := dct_some hR nd hm
      have hO3 : OptT H3 v' row := OptT.firm H H3 _ _ (fun a xs e => q2 _ _ (by rw [upd_ne (ne_of e hd (by intro z; cases z))]; exact e)) hO
      refine ⟨rfl, ?_⟩
      refine yesT ?_
      refine ⟨_, rfl, .str z, "str", rfl, rfl, (fun y e => by cases e; have h8 : (z.length : Int) ≤ 8 := hPz.2.hi; exact Nat.le_of_lt (small1000 (by omega))), fun H4 s4 => ?_⟩
      rw [nm_of hPz.2]
      refine ⟨true, rfl, ?_⟩
      walk_at "k"
      refine ⟨_, rfl, _, rfl, d, v', rfl, .inl ⟨kvs, .inr z, .inr ⟨od, s4 _ _ (q2 _ _ upd_same)⟩, rfl, hv'.symm⟩, ?_⟩
      walk_at "rr"
      refine ⟨v', row, n, top, rfl, OptT.firm H3 H4 _ _ (same_tups s4) hO3, hPz.1, h6, h9, fun H5 s5 => ?_⟩
      refine ⟨_, s5 _ _ (s4 _ _ q1), ?_, ?_, same_upd ((q2.trans s4).trans s5) nD⟩
      · rw [List.length_map, List.length_replicate]
        have : i < kvs.length := hi
        exact small1000 (by omega)
      · rw [upd_same, rep_snoc]
    · rintro H2 ⟨q1, q2⟩
      have hd2 := q2 _ _ upd_same
      refine ⟨hd2, D, List.replicate kvs.length true, rfl, SqL.of ((upd_ne nDd).trans q1), ?_⟩
      rw [rep_all]
      refine k _ fun b o e => ?_
      by_cases eb : b = d
      · subst eb; rw [upd_same, ← e, hd]
      · rw [upd_ne eb]
        exact q2 b o (by rw [upd_ne eb]; exact e)
end
end Toy

namespace Toy
open PySem PySem.Spec PyProof.Rows L2
local macro_rules | `(tactic| walk_at "hp") => `(tactic| first
  | assumption
  | exact upd_same
  | (refine Eq.trans (upd_ne (by first | assumption | (apply Ne.symm; assumption))) ?_; walk_at "hp"))
local macro_rules | `(tactic| walk_at "side") => `(tactic| first
  | exact .inl ⟨by omega, by omega⟩
  | exact .inr ⟨by omega, by omega⟩
  | exact ⟨by omega, by omega⟩
  | (show _ ≤ _; omega)
  | (show (_ : Int) < _; omega)
  | decide
  | assumption)
local macro_rules | `(tactic| walk_at "r") => `(tactic| first
  | refine ⟨_, rfl, ?_⟩
  | refine ⟨_, _, rfl, rfl, ?_⟩
  | refine ⟨_, _, _, _, rfl, rfl, SqL.of (by walk_at "hp"), rfl, ?_⟩
  | refine ⟨_, _, _, _, rfl, rfl, SqT.of (by walk_at "hp"), rfl, ?_⟩
  | refine ⟨_, _, _, _, rfl, rfl, (by walk_at "hp"), rfl, ?_⟩
  | refine And.intro rfl ?_
  | refine ⟨_, _, rfl, SqT.of (by walk_at "hp"), ?_⟩
  | refine ⟨_, _, rfl, SqL.of (by walk_at "hp"), ?_⟩
  | refine .inl ⟨_, rfl, ?_⟩
  | refine ⟨_, _, rfl, .inl (SqL.of (by walk_at "hp")), ?_⟩
  | refine ⟨_, _, rfl, .inr (SqT.of (by walk_at "hp")), ?_⟩
  | refine ⟨_, _, rfl, .inl ⟨SqL.of (by walk_at "hp"), ?_⟩⟩
  | refine And.intro (.inl ⟨rfl, _, SqL.of (by walk_at "hp")⟩) ?_
  | refine ⟨_, _, _, rfl, rfl, (by walk_at "hp"), ?_⟩
  | refine ⟨_, _, rfl, (by walk_at "hp"), ?_⟩
  | refine And.intro (by walk_at "side") ?_)
local macro_rules | `(tactic| walk_at "rr") => `(tactic| (repeat walk_at "r"))
local macro_rules | `(tactic| walk_at "k") => `(tactic| first
  | refine ite2 (fun _ => ?_) (fun g => absurd rfl g)
  | refine ite2 (fun g => absurd g (by decide)) (fun _ => ?_)
  | refine ite2 (fun _ => ?_) (fun g => absurd (decide_eq_true (by omega)) g)
  | refine ite2 (fun g => absurd (of_decide_eq_true g) (by omega)) (fun _ => ?_)
  | refine ite2 (fun g => (nd_t g (by omega)).elim) (fun _ => ?_)
  | refine ite2 (fun _ => ?_) (fun g => absurd (nd_f g) (by omega)))
local macro_rules | `(tactic| walk_at "rk") => `(tactic| (repeat (first | walk_at "r" | walk_at "k")))
section
variable {P : Program} {w : World} {K : PySem.W.Frag} {mg : Str → Option Value} {base : Heap}
theorem ok_least_ways (T : Top K mg) : Ok P w K mg base 1 "least_ways" ["moves"] spLeastWays := by
  refine ok_of T.d_least_ways sc_least_ways (fun vs H Q E h => ?_) (fun f cdv A outer s H vs Q E hr h => ?_)
  · obtain ⟨v, rows, n, top, rfl, _⟩ := h
    rfl
  · obtain ⟨v, rows, n, top, rfl, ⟨a, vs, rfl, ha, hp⟩, S, h1, h6, k⟩ := h
    have hl : (vs.length : Int) = n := by rw [prd_len hp]; exact S.len
    refine ⟨_, (pss_cons (ps_setLc (i := 1) (own := [("prices", 6)]) (g := gName 6) rfl sc_least_ways.nd rfl rfl (sw_true rfl rfl rfl (by decide +kernel)) (pi_tup (pv 0)) (blkOk_by (own := [("prices", 6)]) (N := ["moves", "ways", "posts", "middle", "start", "end", "prices", "row"]) (sc := defScope s_least_ways) (by decide +kernel)) (fun _ _ _ _ _ => (pg_name (i := 6) sc_least_ways.nd rfl (Or.inl rfl))) (fun _ _ _ _ _ => pts_nil) (fun _ _ _ _ _ => (pe_callTy (T := "list") (call_list_of : CallR _ _ (rListOf K)) (by rfl) T.b_list (by decide +kernel) (pa_cons (pv 6) pa_nil))))
      (pss_cons (ps_set (i := 2) sc_least_ways.nd rfl (Or.inl rfl) (pe_callTy (T := "range") cr_rng1 (by rfl) T.b_range (by decide +kernel) (pa_cons (pe_callB (id := "len") call_len_seq (by rfl) T.b_len (by decide +kernel) (pa_cons (pv 0) pa_nil)) pa_nil)))
      (pss_cons (ps_for PassesOwn.never rfl (pi_rngV (pv 2)) (pg_name (i := 3) sc_least_ways.nd rfl (Or.inl rfl))
      (pss_one (ps_for PassesOwn.never rfl (pi_rngV (pv 2)) (pg_name (i := 4) sc_least_ways.nd rfl (Or.inl rfl))
      (pss_one (ps_for PassesOwn.never rfl (pi_rngV (pv 2)) (pg_name (i := 5) sc_least_ways.nd rfl (Or.inl rfl))
      (pss_one (ps_asg (pe_callB (id := "min") (call_min2 rfl) (by rfl) T.b_min (by decide +kernel) (pa_cons (pe_ix ix_list (pe_ix ix_list (pv 1) (pv 4) (fun _ _ => rfl)) (pv 5) (fun _ _ => rfl)) (pa_cons (pe_op op_add (pe_ix ix_list (pe_ix ix_list (pv 1) (pv 4) (fun _ _ => rfl)) (pv 3) (fun _ _ => rfl)) (pe_ix ix_list (pe_ix ix_list (pv 1) (pv 3) (fun _ _ => rfl)) (pv 5) (fun _ _ => rfl))) pa_nil))) (pg_sub (pe_ix ix_list (pv 1) (pv 4) (fun _ _ => rfl)) (pv 5) set_list))))))))
      (pss_one (ps_ret (pe_callTy (T := "tuple") call_tuple_of (by rfl) T.b_tuple (by decide +kernel) (pa_cons (pe_lc (own := [("row", 7)]) (g := gName 7) rfl sc_least_ways.nd (pi_list (pv 1)) (blkOk_by (own := [("row", 7)]) (N := ["moves", "ways", "posts", "middle", "start", "end", "prices", "row"]) (sc := defScope s_least_ways) (by decide +kernel)) (fun _ _ _ _ _ => (pg_name (i := 7) sc_least_ways.nd rfl (Or.inl rfl))) (fun _ _ _ _ _ => pts_nil) (fun _ _ _ _ _ => (pe_callTy (T := "tuple") (call_tuple_of : CallR _ _ (rTupOf K)) (by rfl) T.b_tuple (by decide +kernel) (pa_cons (pv 7) pa_nil)))) pa_nil))))))), ?_⟩
    walk_at "rr"
    refine ⟨⟨_, SqT.of ha⟩, ?_⟩
    intro L nL
    have nLa : a ≠ L := ne_of_none ha nL
    refine lc_tup (K := K) (a := a) (xs := vs) (fun i H2 => ∃ as : List Addr, H2 L = some (.lst (as.map V.ref)) ∧ as.length = i ∧ as.Nodup ∧ L ∉ as ∧ (∀ b ∈ as, H b = none) ∧ (∀ (j : Nat) b, as[j]? = some b → H2 b = some (.lst (rowV n.toNat (mat rows j)))) ∧ Same H H2)
      ⟨[], upd_same, rfl, .nil, by simp, by simp, by simp, same_new nL⟩ (fun i H2 _ ⟨_, _, _, _, _, _, _, q⟩ => SqT.of (q _ _ ha)) ?_ ?_
    · rintro i x H2 hi ⟨as, e1, e2, e3, e4, e5, e6, e7⟩
      obtain ⟨row, hrow, b, rfl, hb⟩ := prd_at1 hp hi
      have hb2 := e7 _ _ hb
      refine ⟨rfl, ?_⟩
      refine yesT ?_
      refine ⟨_, rfl, b, _, rfl, .inr (SqT.of hb2), fun t nt => ?_⟩
      have ntL : L ≠ t := ne_of_none e1 nt
      have ntH := e7.free nt
      have ntas : t ∉ as := fun m => by
        obtain ⟨j, hj⟩ := List.mem_iff_getElem?.mp m
        rw [e6 j t hj] at nt; cases nt
      refine ⟨_, (upd_ne ntL).trans e1, ?_, as ++ [t], ?_, ?_, ?_, ?_, ?_, ?_, ?_⟩
      · rw [List.length_map]; have := (List.getElem?_eq_some_iff.mp hi).1; exact small1000 (by omega)
      · rw [upd_same, List.map_append]; rfl
      · rw [List.length_append, e2]; rfl
      · exact nd_snoc e3 ntas
      · intro m
        rcases List.mem_append.mp m with q | q
        · exact e4 q
        · exact ntL (List.mem_singleton.mp q)
      · intro c hc
        rcases List.mem_append.mp hc with q | q
        · exact e5 c q
        · rw [List.mem_singleton.mp q]; exact ntH
      · intro j c hc
        by_cases hj : j < as.length
        · rw [List.getElem?_append_left hj] at hc
          have hcm := List.mem_of_getElem? hc
          have hcL : c ≠ L := fun q => e4 (q ▸ hcm)
          have hct : c ≠ t := fun q => ntas (q ▸ hcm)
          rw [upd_ne hcL, upd_ne hct]
          exact e6 j c hc
        · have hj2 : j = as.length := by
            have := (List.getElem?_eq_some_iff.mp hc).1
            rw [List.length_append] at this
            simp at this
            omega
          subst hj2
          rw [List.getElem?_append_right (Nat.le_refl _), Nat.sub_self] at hc
          obtain rfl := Option.some.inj (show some t = some c from hc)
          rw [upd_ne ntL.symm, upd_same]
          have hrm := S.row row (List.mem_of_getElem? hrow)
          rw [rowV_of (n := n.toNat) (by omega), e2]
          congr 2
          unfold rowV
          apply List.map_congr_left
          intro q _
          rw [mat_at hrow]
      · exact same_upd (same_upd e7 ntH) nL
    · rintro H2 ⟨as, e1, e2, e3, e4, e5, e6, e7⟩
      have ha2 := e7 _ _ ha
      walk_at "rr"
      intro r nr
      have hrH := e7.free nr
      have hrL : r ≠ L := fun q => by subst q; rw [e1] at nr; cases nr
      have en : ((vs.length : Int) - 0).toNat = n.toNat := by omega
      have M0 : MatAt (upd H2 r (.rng 0 vs.length)) L as n.toNat (mat rows) := by
        refine ⟨(upd_ne hrL.symm).trans e1, by omega, e3, e4, fun i b hb => ?_⟩
        have hbm := List.mem_of_getElem? hb
        have hbr : b ≠ r := fun q => by subst q; rw [e6 i b hb] at nr; cases nr
        rw [upd_ne hbr]
        exact e6 i b hb
      have T0 : Tri n.toNat (mat rows) 0 := ⟨S.z, S.nn, fun i j k' _ _ hk => absurd hk (Nat.not_lt_zero _)⟩
      refine ⟨_, rfl, r, 0, _, rfl, upd_same, by omega, by omega, by omega, by omega, ?_⟩
      refine for_range (lo := 0) (n := ((vs.length : Int) - 0).toNat) (fun m σ' H3 => ∃ (M : Nat → Nat → Int) (o3 o4 o5 : Option V), σ' = [some (.ref a), some (.ref L), some (.ref r), o3, o4, o5, none, none] ∧ H3 r = some (.rng 0 vs.length) ∧ MatAt H3 L as n.toNat M ∧
          Tri n.toNat M m ∧ Snd n.toNat (mat rows) M ∧ (∀ i j, i < n.toNat → j < n.toNat → M i j ≤ mat rows i j) ∧ Same H H3)
        ⟨_, none, none, none, rfl, upd_same, M0, T0, Snd.self, fun i j _ _ => Int.le_refl _, same_upd e7 hrH⟩ ?_ ?_
      · rintro m σ' H3 hm ⟨M, o3, o4, o5, rfl, hr3, hM, hT, hS, hle, s3⟩
        have hm' : m < n.toNat := by omega
        refine ⟨_, rfl, r, 0, _, rfl, hr3, by omega, by omega, by omega, by omega, ?_⟩
        refine for_range (lo := 0) (n := ((vs.length : Int) - 0).toNat) (fun st σ' H4 => ∃ (o4 o5 : Option V), σ' = [some (.ref a), some (.ref L), some (.ref r), some (.int (m : Nat)), o4, o5, none, none] ∧ H4 r = some (.rng 0 vs.length) ∧
            MatAt H4 L as n.toNat (fun i j => if i < st then ph M m i j else M i j) ∧ Same H H4)
          ⟨o4, o5, by simp, hr3, hM.ext fun i j _ _ => by simp, s3⟩ ?_ ?_
        · rintro st σ' H4 hst ⟨o4, o5, rfl, hr4, hM4, s4⟩
          have hst' : st < n.toNat := by omega
          refine ⟨_, rfl, r, 0, _, rfl, hr4, by omega, by omega, by omega, by omega, ?_⟩
          refine for_range (lo := 0) (n := ((vs.length : Int) - 0).toNat) (fun e σ' H5 => ∃ (o5 : Option V), σ' = [some (.ref a), some (.ref L), some (.ref r), some (.int (m : Nat)), some (.int (st : Nat)), o5, none, none] ∧ H5 r = some (.rng 0 vs.length) ∧
              MatAt H5 L as n.toNat (fun i j => if i < st ∨ (i = st ∧ j < e) then ph M m i j else M i j) ∧ Same H H5)
            ⟨o5, by simp, hr4, hM4.ext fun i j _ _ => by simp, s4⟩ ?_ ?_
          · rintro e σ' H5 he ⟨o5, rfl, hr5, hM5, s5⟩
            have he' : e < n.toNat := by omega
            obtain ⟨as1, has1⟩ : ∃ b, as[st]? = some b := ⟨_, List.getElem?_eq_getElem (by rw [hM5.len]; omega)⟩
            obtain ⟨am1, ham1⟩ : ∃ b, as[m]? = some b := ⟨_, List.getElem?_eq_getElem (by rw [hM5.len]; omega)⟩
            have r1 := hM5.row st as1 has1
            have r2 := hM5.row m am1 ham1
            have hL5 := hM5.ws
            have p1 : ph M m st m = M st m := by
              have h0 := hT.z m hm'
              unfold ph; rw [h0]; split <;> omega
            have p2 : ph M m m e = M m e := by
              have h0 := hT.z m hm'
              unfold ph; rw [h0]; split <;> omega
            have nas : as1 ≠ r := fun q => by subst q; rw [r1] at hr5; cases hr5
            rw [Int.zero_add]
            refine ⟨_, rfl, _, rfl, L, _, (st : Nat), _, rfl, rfl, SqL.of hL5, atI_nat (by rw [List.getElem?_map, has1]; rfl), _, rfl, as1, _, (e : Nat), _, rfl, rfl, SqL.of r1, atI_nat (rowV_at he'), ?_⟩
            refine ⟨_, rfl, _, rfl, L, _, (st : Nat), _, rfl, rfl, SqL.of hL5, atI_nat (by rw [List.getElem?_map, has1]; rfl), _, rfl, as1, _, (m : Nat), _, rfl, rfl, SqL.of r1, atI_nat (rowV_at hm'), ?_⟩
            refine ⟨_, rfl, _, rfl, L, _, (m : Nat), _, rfl, rfl, SqL.of hL5, atI_nat (by rw [List.getElem?_map, ham1]; rfl), _, rfl, am1, _, (e : Nat), _, rfl, rfl, SqL.of r2, atI_nat (rowV_at he'), ?_⟩
            refine ⟨_, _, rfl, rfl, _, _, rfl, ?_⟩
            refine ⟨_, rfl, _, rfl, L, _, (st : Nat), _, rfl, rfl, SqL.of hL5, atI_nat (by rw [List.getElem?_map, has1]; rfl), _, rfl, as1, _, (e : Nat), e, rfl, rfl, r1, ?_, ?_⟩
            · unfold ixN
              rw [rowV_len, if_pos (by omega), if_pos (by omega)]
              rfl
            rw [rowV_set]
            refine ⟨_, rfl, (upd_ne nas.symm).trans hr5, (hM5.set has1).ext fun i j hi hj => ?_, same_upd s5 (e5 as1 (List.mem_of_getElem? has1))⟩
            have c1 : (if st < st ∨ st = st ∧ e < e then ph M m st e else M st e) = M st e := by simp
            have c2 : (if st < st ∨ st = st ∧ m < e then ph M m st m else M st m) = M st m := by rw [p1]; simp
            have c3 : (if m < st ∨ m = st ∧ e < e then ph M m m e else M m e) = M m e := by rw [p2]; simp
            rw [c1, c2, c3]
            by_cases hij : i = st ∧ j = e
            · obtain ⟨rfl, rfl⟩ := hij
              rw [if_pos ⟨rfl, rfl⟩, if_pos (c := i < i ∨ i = i ∧ j < j + 1) (.inr ⟨rfl, Nat.lt_succ_self _⟩)]
              rfl
            · rw [if_neg hij]
              by_cases hq : i < st ∨ (i = st ∧ j < e)
              · rw [if_pos hq, if_pos (by omega)]
              · rw [if_neg hq, if_neg (by omega)]
          · rintro σ' H5 ⟨o5, rfl, hr5, hM5, s5⟩
            refine ⟨_, _, rfl, hr5, hM5.ext fun i j hi hj => ?_, s5⟩
            by_cases hq : i < st ∨ (i = st ∧ j < ((vs.length : Int) - 0).toNat)
            · rw [if_pos hq, if_pos (by omega)]
            · rw [if_neg hq, if_neg (by omega)]
        · rintro σ' H4 ⟨o4, o5, rfl, hr4, hM4, s4⟩
          refine ⟨ph M m, _, _, _, rfl, hr4, hM4.ext fun i j hi hj => by rw [if_pos (by omega)], hT.ph hm', hS.ph hm', fun i j hi hj => ?_, s4⟩
          exact Int.le_trans (@ph_le M m i j).1 (hle i j hi hj)
      · rintro σ' H3 ⟨M, o3, o4, o5, rfl, hr3, hM, hT, hS, hle, s3⟩
        rw [en] at hT
        have hLst := Least.of hT hS hle
        have hL5 := hM.ws
        refine ⟨_, rfl, L, rfl, ⟨_, SqL.of hL5⟩, fun D nD => ?_⟩
        have hDL : L ≠ D := ne_of_none hL5 nD
        refine lc_list (K := K) (a := L) (xs := as.map V.ref) (fun i H4 => ∃ ts : List V, H4 D = some (.lst ts) ∧ Paired (IntT H4) ts ((List.range i).map fun q => (List.range n.toNat).map (M q)) ∧ MatAt H4 L as n.toNat M ∧ Same H3 H4)
          ⟨[], upd_same, .nil, ?_, same_new nD⟩ (fun i H4 _ ⟨_, _, _, q, _⟩ => SqL.of q.ws) ?_ ?_
        · exact ⟨(upd_ne hDL).trans hL5, hM.len, hM.nd, hM.nw, fun i b hb => (upd_ne (ne_of_none (hM.row i b hb) nD)).trans (hM.row i b hb)⟩
        · rintro i x H4 hi ⟨ts, q1, q2, q3, q4⟩
          obtain ⟨b, hb, rfl⟩ := map_at hi
          have hrow := q3.row i b hb
          have hil := (List.getElem?_eq_some_iff.mp hb).1
          refine ⟨rfl, ?_⟩
          refine yesT ?_
          refine ⟨_, rfl, b, _, rfl, .inl ⟨SqL.of hrow, fun t nt => ?_⟩⟩
          have ntD : t ≠ D := fun q => by subst q; rw [q1] at nt; cases nt
          have hF : ∀ c xs, H4 c = some (.tup xs) → (upd (upd H4 t (.tup (rowV n.toNat (M i)))) D (.lst (ts ++ [V.ref t]))) c = some (.tup xs) := fun c xs e => by
            rw [upd_ne (ne_of e q1 (by intro z; cases z)), upd_ne (ne_of_none e nt)]; exact e
          refine ⟨_, (upd_ne ntD.symm).trans q1, ?_, ts ++ [.ref t], upd_same, ?_, ?_, ?_⟩
          · rw [prd_len q2, List.length_map, List.length_range]
            have := hM.len
            exact small1000 (by omega)
          · rw [List.range_succ, List.map_append]
            refine Paired.snoc (prd_imp q2 fun x y r => IntT.firm H4 _ x y hF r) ⟨t, rfl, ?_⟩
            rw [upd_ne ntD, upd_same, rowV_ints]
          · have hLt : L ≠ t := ne_of_none q3.ws nt
            refine ⟨(upd_ne hDL).trans ((upd_ne hLt).trans q3.ws), q3.len, q3.nd, q3.nw, fun j c hc => ?_⟩
            have hcr := q3.row j c hc
            have hcD : c ≠ D := ne_of_none (hM.row j c hc) nD
            exact (upd_ne hcD).trans ((upd_ne (ne_of_none hcr nt)).trans hcr)
          · exact same_upd (same_upd q4 (q4.free nt)) nD
        · rintro H4 ⟨ts, q1, q2, q3, q4⟩
          refine ⟨D, _, rfl, .inl ⟨SqL.of q1, fun t nt => ?_⟩⟩
          rw [List.length_map, hM.len] at q2
          refine k _ ((List.range n.toNat).map fun q => (List.range n.toNat).map (M q)) _ ((s3.trans q4).trans (same_new nt)) ⟨t, ts, rfl, upd_same, prd_imp q2 fun x y r => IntT.firm H4 _ x y (same_tups (same_new nt)) r⟩ ⟨?_, ?_, ?_⟩
          · rw [List.length_map, List.length_range]; omega
          · intro r hr
            obtain ⟨q, _, rfl⟩ := List.mem_map.mp hr
            rw [List.length_map, List.length_range]; omega
          · have em : ∀ i j, i < n.toNat → j < n.toNat → mat ((List.range n.toNat).map fun q => (List.range n.toNat).map (M q)) i j = M i j := fun i j hi hj => by
              rw [mat_at (r := (List.range n.toNat).map (M i)) (by rw [List.getElem?_map, List.getElem?_range hi]; rfl)]
              rw [List.getD_eq_getElem?_getD, List.getElem?_map, List.getElem?_range hj]
              rfl
            refine ⟨fun i j hi hj => ?_, fun i j l hi hj w => ?_⟩
            · rw [em i j hi hj]; exact hLst.has i j hi hj
            · rw [em i j hi hj]; exact hLst.le i j l hi hj w
end
end Toy

namespace Toy
open PySem PySem.Spec PyProof.Rows L2
local macro_rules | `(tactic| walk_at "hp") => `(tactic| first
  | assumption
  | exact upd_same
  | (refine Eq.trans (upd_ne (by first | assumption | (apply Ne.symm; assumption))) ?_; walk_at "hp"))
local macro_rules | `(tactic| walk_at "side") => `(tactic| first
  | exact .inl ⟨by omega, by omega⟩
  | exact .inr ⟨by omega, by omega⟩
  | exact ⟨by omega, by omega⟩
  | (show _ ≤ _; omega)
  | (show (_ : Int) < _; omega)
  | decide
  | assumption)
local macro_rules | `(tactic| walk_at "r") => `(tactic| first
  | refine ⟨_, rfl, ?_⟩
  | refine ⟨_, _, rfl, rfl, ?_⟩
  | refine ⟨_, _, _, _, rfl, rfl, SqL.of (by walk_at "hp"), rfl, ?_⟩
  | refine ⟨_, _, _, _, rfl, rfl, SqT.of (by walk_at "hp"), rfl, ?_⟩
  | refine ⟨_, _, _, _, rfl, rfl, (by walk_at "hp"), rfl, ?_⟩
  | refine And.intro rfl ?_
  | refine ⟨_, _, rfl, SqT.of (by walk_at "hp"), ?_⟩
  | refine ⟨_, _, rfl, SqL.of (by walk_at "hp"), ?_⟩
  | refine .inl ⟨_, rfl, ?_⟩
  | refine ⟨_, _, rfl, .inl (SqL.of (by walk_at "hp")), ?_⟩
  | refine ⟨_, _, rfl, .inr (SqT.of (by walk_at "hp")), ?_⟩
  | refine ⟨_, _, rfl, .inl ⟨SqL.of (by walk_at "hp"), ?_⟩⟩
  | refine And.intro (.inl ⟨rfl, _, SqL.of (by walk_at "hp")⟩) ?_
  | refine ⟨_, _, _, rfl, rfl, (by walk_at "hp"), ?_⟩
  | refine ⟨_, _, rfl, (by walk_at "hp"), ?_⟩
  | refine And.intro (by walk_at "side") ?_)
local macro_rules | `(tactic| walk_at "rr") => `(tactic| (repeat walk_at "r"))
local macro_rules | `(tactic| walk_at "k") => `(tactic| first
  | refine ite2 (fun _ => ?_) (fun g => absurd rfl g)
  | refine ite2 (fun g => absurd g (by decide)) (fun _ => ?_)
  | refine ite2 (fun _ => ?_) (fun g => absurd (decide_eq_true (by omega)) g)
  | refine ite2 (fun g => absurd (of_decide_eq_true g) (by omega)) (fun _ => ?_)
  | refine ite2 (fun g => (nd_t g (by omega)).elim) (fun _ => ?_)
  | refine ite2 (fun _ => ?_) (fun g => absurd (nd_f g) (by omega)))
local macro_rules | `(tactic| walk_at "rk") => `(tactic| (repeat (first | walk_at "r" | walk_at "k")))
/-- as SysAt, with the dict of the requests told -/
structure SysAtQ (C : Addr) (H : Hp) (p : Addr) (S : Sys) (q : Addr) : Prop where
  ex : ∃ (dx : Addr) (mv : V) (na : Addr) (wv : V) (kvs : List (Key × V)), H p = some (.ins C dx (sfs mv S.n (.ref na) wv q)) ∧ TupT IntT H mv S.rows ∧ H na = some (.tup ((S.rs.map (·.1)).map V.str)) ∧ TupT IntT H wv S.ws ∧ H q = some (.dK kvs) ∧ DctOf OptT H kvs S.rs
theorem SysAtQ.at {C : Addr} {H : Hp} {p : Addr} {S : Sys} {q : Addr} (A : SysAtQ C H p S q) : SysAt C H p S := by
  obtain ⟨dx, mv, na, wv, kvs, h⟩ := A.ex
  exact ⟨dx, mv, na, wv, q, kvs, h⟩
theorem SysAtQ.lock {C : Addr} {H : Hp} {p : Addr} {S : Sys} {q e : Addr} {ekv : List (Key × V)} {o : Obj} (A : SysAtQ C H p S q) (he : H e = some (.dK ekv)) (ne : q ≠ e) : SysAt C (upd H e (.frz o (.dK ekv))) p S := by
  obtain ⟨dx, mv, na, wv, kvs, h1, h2, h3, h4, h5, h6⟩ := A.ex
  have hF : ∀ a xs, H a = some (.tup xs) → (upd H e (.frz o (.dK ekv))) a = some (.tup xs) := fun a xs h => (upd_ne (ne_of h he (by intro z; cases z))).trans h
  exact ⟨dx, mv, na, wv, q, kvs, (upd_ne (ne_of h1 he (by intro z; cases z))).trans h1, TupT.firm IntT.firm _ _ _ _ hF h2, hF _ _ h3, TupT.firm IntT.firm _ _ _ _ hF h4, (upd_ne ne).trans h5, h6.firm OptT.firm hF⟩
theorem SysAtQ.same {C : Addr} {H H' : Hp} {p : Addr} {S : Sys} {q : Addr} (A : SysAtQ C H p S q) (k : Same H H') : SysAtQ C H' p S q := by
  obtain ⟨dx, mv, na, wv, kvs, h1, h2, h3, h4, h5, h6⟩ := A.ex
  exact ⟨dx, mv, na, wv, kvs, k _ _ h1, TupT.firm IntT.firm H H' _ _ (same_tups k) h2, k _ _ h3, TupT.firm IntT.firm H H' _ _ (same_tups k) h4, k _ _ h5, h6.firm OptT.firm (same_tups k)⟩
theorem SysAtQ.keep {C c d : Addr} {H H' : Hp} {p : Addr} {S : Sys} {q : Addr} (A : SysAtQ C H p S q) (D : Dice c H d) (k : Keep d H H') : SysAtQ C H' p S q := by
  obtain ⟨dx, mv, na, wv, kvs, h1, h2, h3, h4, h5, h6⟩ := A.ex
  have hp : p ≠ d := by
    obtain ⟨cells, i, b, s, t, e, _⟩ := D.ex
    exact ne_of h1 e (by intro z; cases z)
  exact ⟨dx, mv, na, wv, kvs, k _ _ hp h1, TupT.firm IntT.firm H H' _ _ (keep_tups k D) h2, k.tup D h3, TupT.firm IntT.firm H H' _ _ (keep_tups k D) h4, k _ _ (D.dK h5) h5, h6.firm OptT.firm (keep_tups k D)⟩
def spSystemN (C : Addr) : Sp := fun vs H Q _ => ∃ (p dx : Addr) (mv : V) (d : Addr) (rows : List (List Int)) (kvs : List (Key × V)) (rs : List (Str × List (Option Int))) (n : Int), vs = [.ref p, mv, .ref d] ∧ H p = some (.ins C dx []) ∧
  TupT IntT H mv rows ∧ Square n 9 rows ∧ 1 ≤ n ∧ n ≤ 6 ∧ H d = some (.dK kvs) ∧ DctOf OptT H kvs rs ∧ (rs.map (·.1)).Nodup ∧ 1 ≤ rs.length ∧ rs.length ≤ 5 ∧ (∀ q ∈ rs, Prices n 9 q.2 ∧ Name 8 q.1) ∧
  ∀ (S : Sys) (H' : Hp) (q : Addr), SysOk S → S.n = n → S.rows = rows → S.rs.Perm rs → SysAtQ C H' p S q → (∀ e o, H e = some o → q ≠ e) → (∀ b o, b ≠ p → H b = some o → H' b = some o) → Q .non H'
section
variable {P : Program} {w : World} {K : PySem.W.Frag} {mg : Str → Option Value} {base : Heap}
theorem ok_SystemZ_initZ (T : Top K mg) : OkI P w K mg base CX0 7 "System" T.c_System ["self", "moves", "requests"] (spSystemN T.c_System) := by
  refine okI_of T.mg_System T.i_System sc_SystemZ_initZ (fun vs H Q E h => ?_) (fun f cdv A outer s H vs Q E hr h => ?_)
  · obtain ⟨p, dx, mv, d, rows, kvs, rs, n, rfl, _⟩ := h
    rfl
  · obtain ⟨p, dx, mv, d, rows, kvs, rs, n, rfl, hp, hmv, sq, h1, h6, hd, hR, nd, r1, r5, hP, k⟩ := h
    obtain ⟨f_is_moves, fd_is_moves, m_is_moves, k_is_moves, b_is_moves, G_is_moves⟩ := ok_is_moves (P := P) (w := w) (base := base) T
    have hr_is_moves : Room 5 _ := hr.mono (by decide)
    obtain ⟨f__is_requests, fd__is_requests, m__is_requests, k__is_requests, b__is_requests, G__is_requests⟩ := ok__is_requests (P := P) (w := w) (base := base) T
    have hr__is_requests : Room 6 _ := hr.mono (by decide)
    obtain ⟨f_least_ways, fd_least_ways, m_least_ways, k_least_ways, b_least_ways, G_least_ways⟩ := ok_least_ways (P := P) (w := w) (base := base) T
    have hr_least_ways : Room 1 _ := hr.mono (by decide)
    have hu := hu_of hr
    refine ⟨_, (pss_cons (ps_if (pt_not (pt_val (pe_call G_is_moves hr_is_moves rfl m_is_moves k_is_moves b_is_moves .nil pass0 (pa_cons (pv 1) pa_nil))))
      (pss_one (ps_never))
      pss_nil)
      (pss_cons (ps_if (pt_not (pt_val (pe_call G__is_requests hr__is_requests rfl m__is_requests k__is_requests b__is_requests .nil pass0 (pa_cons (pv 2) (pa_cons (pe_callB (id := "len") call_len_seq (by rfl) T.b_len (by decide +kernel) (pa_cons (pv 1) pa_nil)) pa_nil)))))
      (pss_one (ps_never))
      pss_nil)
      (pss_cons (ps_fld (pv 0) (pv 1) rfl)
      (pss_cons (ps_fld (pv 0) (pe_callB (id := "len") call_len_seq (by rfl) T.b_len (by decide +kernel) (pa_cons (pv 1) pa_nil)) rfl)
      (pss_cons (ps_fld (pv 0) (pe_callTy (T := "tuple") call_tuple_of (by rfl) T.b_tuple (by decide +kernel) (pa_cons (pe_callB (id := "sorted") (call_sortedD rfl) (by rfl) T.b_sorted (by decide +kernel) (pa_cons (pv 2) pa_nil)) pa_nil)) rfl)
      (pss_cons (ps_fld (pv 0) (pe_call G_least_ways hr_least_ways rfl m_least_ways k_least_ways b_least_ways .nil pass0 (pa_cons (pv 1) pa_nil)) rfl)
      (pss_one (ps_fld (pv 0) (pe_dc (own := [("name", 3)]) (g := gName 3) rfl sc_SystemZ_initZ.nd (pi_tup (pe_fld (pv 0) rfl)) (blkOk_by (own := [("name", 3)]) (N := ["self", "moves", "requests", "name"]) (sc := defScope s_SystemZ_initZ) (by decide +kernel)) (fun _ _ _ _ _ => (pg_name (i := 3) sc_SystemZ_initZ.nd rfl (Or.inl rfl))) (fun _ _ _ _ _ => pts_nil) (fun _ _ _ _ _ => (pv 3)) (fun _ _ _ _ _ => (pe_dget hu (pv 2) (pv 3) (fun _ _ => rfl)))) rfl)))))))), ?_⟩
    refine ⟨_, rfl, mv, rows, n, 9, rfl, hmv, sq, h1, h6, by decide, fun H1 s1 => ⟨_, rfl, ?_⟩⟩
    walk_at "rk"
    obtain ⟨ma, mvs, rfl, hma, hmp⟩ := hmv
    have hml : (mvs.length : Int) = n := by rw [prd_len hmp]; exact sq.len
    have hma1 := s1 _ _ hma
    have hd1 := s1 _ _ hd
    walk_at "rk"
    refine ⟨d, kvs, rs, n, 9, ?_, hd1, hR.firm OptT.firm (same_tups s1), nd, r1, r5, hP, h6, by decide, fun H2 s2 => ⟨_, rfl, ?_⟩⟩
    · rw [hml]; rfl
    have hp2 := s2 _ _ (s1 _ _ hp)
    have hma2 := s2 _ _ hma1
    have hd2 := s2 _ _ hd1
    have hR2 : DctOf OptT H2 kvs rs := hR.firm OptT.firm (same_tups (s1.trans s2))
    have nma : ma ≠ p := ne_of hma hp (by intro z; cases z)
    have ndp : d ≠ p := ne_of hd hp (by intro z; cases z)
    walk_at "rk"
    -- the attributes
    refine ⟨p, T.c_System, dx, _, rfl, hp2, T.cl_System, T.na_System_moves, (by show 0 < 1000; decide), ?_⟩
    walk_at "rr"
    refine ⟨p, T.c_System, dx, _, rfl, upd_same, T.cl_System, T.na_System_posts, (by have := putF_len "moves" (.ref ma) []; exact Nat.lt_of_le_of_lt this (by decide)), ?_⟩
    rw [upd_upd]
    refine ⟨_, rfl, d, kvs, rs.map (·.1), rfl, .inl ((upd_ne ndp).trans hd2), dct_keys hR, (by rw [List.length_map]; omega), fun ys l hperm hsort nl => ?_⟩
    have npl : p ≠ l := fun q => by subst q; rw [upd_same] at nl; cases nl
    have nl2 : H2 l = none := by rw [upd_ne npl.symm] at nl; exact nl
    refine ⟨l, _, rfl, .inl ⟨SqL.of upd_same, fun t nt => ?_⟩⟩
    have ntl : t ≠ l := fun q => by subst q; rw [upd_same] at nt; cases nt
    rw [upd_ne ntl] at nt
    have npt : p ≠ t := fun q => by subst q; rw [upd_same] at nt; cases nt
    have nt2 : H2 t = none := by rw [upd_ne npt.symm] at nt; exact nt
    refine ⟨_, rfl, p, T.c_System, dx, _, rfl, (upd_ne npt).trans ((upd_ne npl).trans upd_same), T.cl_System, T.na_System_names, (by
      have q1 := putF_len "posts" (.int mvs.length) (putF "moves" (.ref ma) [])
      have q2 := putF_len "moves" (.ref ma) []
      have q3 : ([] : List (Str × V)).length = 0 := rfl
      omega), ?_⟩
    have hmv3 : ∀ {a b c d' : HO}, TupT IntT (upd (upd (upd (upd H2 p a) l b) t c) p d') (.ref ma) rows := fun {a b c d'} =>
      ⟨ma, mvs, rfl, keep4 nl2 nt2 _ _ nma hma2, prd_imp hmp fun x y r => IntT.firm H _ x y (fun e xs q => keep4 nl2 nt2 _ _ (ne_of q hp (by intro z; cases z)) (s2 _ _ (s1 _ _ q))) r⟩
    refine ⟨_, rfl, .ref ma, rows, n, 9, rfl, hmv3, sq, h1, by omega, fun wv ws H4 s4 hwv hW => ?_⟩
    have q2 := putF_len "moves" (.ref ma) []
    have q1 := putF_len "posts" (.int mvs.length) (putF "moves" (.ref ma) [])
    have q0 := putF_len "names" (.ref t) (putF "posts" (.int mvs.length) (putF "moves" (.ref ma) []))
    have q9 := putF_len "ways" wv (putF "names" (.ref t) (putF "posts" (.int mvs.length) (putF "moves" (.ref ma) [])))
    have q3 : ([] : List (Str × V)).length = 0 := rfl
    refine ⟨_, rfl, p, T.c_System, dx, _, rfl, s4 _ _ upd_same, T.cl_System, T.na_System_ways, by omega, ?_⟩
    have ht4 : H4 t = some (.tup (ys.map V.str)) := s4 _ _ ((upd_ne npt.symm).trans upd_same)
    have hd4 : H4 d = some (.dK kvs) := s4 _ _ (keep4 nl2 nt2 _ _ ndp hd2)
    have hR4 : DctOf OptT H4 kvs rs := hR2.firm OptT.firm fun e xs q => s4 _ _ (keep4 nl2 nt2 _ _ (ne_of q hp2 (by intro z; cases z)) q)
    have hmv4 : TupT IntT H4 (.ref ma) rows := TupT.firm IntT.firm _ _ _ _ (same_tups s4) hmv3
    have hp4 := s4 _ _ (show _ = _ from upd_same)
    obtain ⟨rs', hk', hperm'⟩ := reorder nd hperm
    have ndy : ys.Nodup := sortedS_perm_nd hperm nd
    have hlen' : rs'.length = rs.length := hperm'.length_eq
    have hly : ys.length = rs'.length := by rw [← hk', List.length_map]
    refine ⟨_, rfl, p, T.c_System, dx, _, .ref t, rfl, upd_same, T.cl_System, T.na_System_names, (by rw [lookup_putF, if_neg (by decide +kernel), lookup_putF, if_pos rfl]), t, rfl, ⟨_, SqT.of ((upd_ne npt.symm).trans ht4)⟩, fun D nD => ?_⟩
    have nDp : D ≠ p := fun q => by subst q; rw [upd_same] at nD; cases nD
    have nD4 : H4 D = none := by rw [upd_ne nDp] at nD; exact nD
    refine dc_tup (K := K) (a := t) (xs := ys.map V.str) (fun i H5 => ∃ kv', H5 D = some (.dK kv') ∧ DctOf OptT H5 kv' (rs'.take i) ∧ Same (upd H4 p (.ins T.c_System dx (putF "ways" wv (putF "names" (.ref t) (putF "posts" (.int mvs.length) (putF "moves" (.ref ma) [])))))) H5)
      ⟨[], upd_same, .nil, same_new nD⟩ (fun i H5 _ ⟨_, _, _, q⟩ => SqT.of (q _ _ ((upd_ne npt.symm).trans ht4))) ?_ ?_
    · rintro i x H5 hi ⟨kv', e1, e2, e3⟩
      obtain ⟨z, hz, rfl⟩ := map_at hi
      have hil : i < rs'.length := by rw [← hly]; exact (List.getElem?_eq_some_iff.mp hz).1
      obtain ⟨⟨z', row⟩, hzr⟩ : ∃ q, rs'[i]? = some q := ⟨_, List.getElem?_eq_getElem hil⟩
      have ezz : z' = z := by
        have : (rs'.map (·.1))[i]? = some z := by rw [hk']; exact hz
        rw [List.getElem?_map, hzr] at this
        exact Option.some.inj this
      subst ezz
      have hm : (z', row) ∈ rs := hperm'.mem_iff.mp (List.mem_of_getElem? hzr)
      obtain ⟨v, hv, hO⟩ := dct_some hR4 nd hm
      have hk5 : ∀ e xs, H4 e = some (.tup xs) → H5 e = some (.tup xs) := fun e xs q => e3 _ _ ((upd_ne (ne_of q hp4 (by intro z; cases z))).trans q)
      have hd5 : H5 d = some (.dK kvs) := e3 _ _ ((upd_ne ndp).trans hd4)
      refine ⟨rfl, ?_⟩
      refine yesT ?_
      refine ⟨_, rfl, _, rfl, _, rfl, d, v, rfl, (by rw [← hv]; exact DGet.k (k := Sum.inr z') hd5), ?_⟩
      have hno : ¬ z' ∈ (rs'.take i).map (·.1) := by
        rw [List.map_take, hk']; exact take_nmem ndy hz
      refine ⟨kv', .inr z', rfl, e1, ?_, ?_⟩
      · rw [dct_len e2, List.length_take]; exact small1000 (by omega)
      rw [putK_new _ (dct_none e2 hno)]
      have hF : ∀ e xs, H5 e = some (.tup xs) → (upd H5 D (.dK (kv' ++ [(Sum.inr z', v)]))) e = some (.tup xs) := fun e xs q => (upd_ne (ne_of q e1 (by intro z; cases z))).trans q
      refine ⟨_, upd_same, ?_, same_upd e3 nD⟩
      rw [List.take_add_one, hzr]
      exact Paired.snoc (e2.firm OptT.firm hF) ⟨rfl, OptT.firm H5 _ _ _ hF (OptT.firm H4 _ _ _ hk5 hO)⟩
    · rintro H5 ⟨kv', e1, e2, e3⟩
      rw [List.length_map, hly, List.take_length] at e2
      have hp5 := e3 _ _ (show _ = _ from upd_same)
      refine ⟨_, rfl, p, T.c_System, dx, _, rfl, hp5, T.cl_System, T.na_System__requests, by omega, ?_⟩
      have hF : ∀ e xs, H4 e = some (.tup xs) → (upd H5 p (.ins T.c_System dx (putF "_requests" (.ref D) (putF "ways" wv (putF "names" (.ref t) (putF "posts" (.int mvs.length) (putF "moves" (.ref ma) []))))))) e = some (.tup xs) := fun e xs q =>
        (upd_ne (ne_of q hp4 (by intro z; cases z))).trans (e3 _ _ ((upd_ne (ne_of q hp4 (by intro z; cases z))).trans q))
      have hF5 : ∀ e xs, H5 e = some (.tup xs) → (upd H5 p (.ins T.c_System dx (putF "_requests" (.ref D) (putF "ways" wv (putF "names" (.ref t) (putF "posts" (.int mvs.length) (putF "moves" (.ref ma) []))))))) e = some (.tup xs) := fun e xs q =>
        (upd_ne (ne_of q hp5 (by intro z; cases z))).trans q
      have SQ : SysAtQ T.c_System (upd H5 p (.ins T.c_System dx (putF "_requests" (.ref D) (putF "ways" wv (putF "names" (.ref t) (putF "posts" (.int mvs.length) (putF "moves" (.ref ma) []))))))) p ⟨n, rows, ws, rs'⟩ D := by
        refine ⟨dx, .ref ma, t, wv, kv', ?_, ?_, ?_, ?_, ?_, ?_⟩
        · rw [upd_same]
          show some (HO.ins T.c_System dx (putF "_requests" (.ref D) (putF "ways" wv (putF "names" (.ref t) (putF "posts" (.int mvs.length) (putF "moves" (.ref ma) [])))))) = some (HO.ins T.c_System dx (sfs (.ref ma) n (.ref t) wv D))
          rw [hml]; rfl
        · exact TupT.firm IntT.firm _ _ _ _ hF hmv4
        · show _ = some (HO.tup ((rs'.map (·.1)).map V.str))
          rw [hk']; exact hF t _ ht4
        · exact TupT.firm IntT.firm _ _ _ _ hF hwv
        · rw [upd_ne nDp]; exact e1
        · exact e2.firm OptT.firm hF5
      refine k ⟨n, rows, ws, rs'⟩ _ D ⟨h1, h6, sq, hW, ?_, ?_, ?_, ?_, ?_⟩ rfl rfl hperm' SQ ?_ ?_
      · show (rs'.map (·.1)).Nodup
        rw [hk']; exact ndy
      · show sortedS (rs'.map (·.1)) = true
        rw [hk']; exact hsort
      · show 1 ≤ rs'.length
        omega
      · show rs'.length ≤ 5
        omega
      · exact fun q hq => hP q (hperm'.mem_iff.mp hq)
      · intro b o e z
        subst z
        by_cases nb : D = p
        · exact nDp nb
        · rw [s4 _ _ (keep4 nl2 nt2 _ _ nb (s2 _ _ (s1 _ _ e)))] at nD4
          cases nD4
      · intro b o nb e
        rw [upd_ne nb]
        exact e3 _ _ ((upd_ne nb).trans (s4 _ _ (keep4 nl2 nt2 _ _ nb (s2 _ _ (s1 _ _ e)))))
end
end Toy

namespace Toy
open PySem PySem.Spec PyProof.Rows L2
local macro_rules | `(tactic| walk_at "hp") => `(tactic| first
  | assumption
  | exact upd_same
  | (refine Eq.trans (upd_ne (by first | assumption | (apply Ne.symm; assumption))) ?_; walk_at "hp"))
local macro_rules | `(tactic| walk_at "side") => `(tactic| first
  | exact .inl ⟨by omega, by omega⟩
  | exact .inr ⟨by omega, by omega⟩
  | exact ⟨by omega, by omega⟩
  | (show _ ≤ _; omega)
  | (show (_ : Int) < _; omega)
  | decide
  | assumption)
local macro_rules | `(tactic| walk_at "r") => `(tactic| first
  | refine ⟨_, rfl, ?_⟩
  | refine ⟨_, _, rfl, rfl, ?_⟩
  | refine ⟨_, _, _, _, rfl, rfl, SqL.of (by walk_at "hp"), rfl, ?_⟩
  | refine ⟨_, _, _, _, rfl, rfl, SqT.of (by walk_at "hp"), rfl, ?_⟩
  | refine ⟨_, _, _, _, rfl, rfl, (by walk_at "hp"), rfl, ?_⟩
  | refine And.intro rfl ?_
  | refine ⟨_, _, rfl, SqT.of (by walk_at "hp"), ?_⟩
  | refine ⟨_, _, rfl, SqL.of (by walk_at "hp"), ?_⟩
  | refine .inl ⟨_, rfl, ?_⟩
  | refine ⟨_, _, rfl, .inl (SqL.of (by walk_at "hp")), ?_⟩
  | refine ⟨_, _, rfl, .inr (SqT.of (by walk_at "hp")), ?_⟩
  | refine ⟨_, _, rfl, .inl ⟨SqL.of (by walk_at "hp"), ?_⟩⟩
  | refine And.intro (.inl ⟨rfl, _, SqL.of (by walk_at "hp")⟩) ?_
  | refine ⟨_, _, _, rfl, rfl, (by walk_at "hp"), ?_⟩
  | refine ⟨_, _, rfl, (by walk_at "hp"), ?_⟩
  | refine And.intro (by walk_at "side") ?_)
local macro_rules | `(tactic| walk_at "rr") => `(tactic| (repeat walk_at "r"))
local macro_rules | `(tactic| walk_at "k") => `(tactic| first
  | refine ite2 (fun _ => ?_) (fun g => absurd rfl g)
  | refine ite2 (fun g => absurd g (by decide)) (fun _ => ?_)
  | refine ite2 (fun _ => ?_) (fun g => absurd (decide_eq_true (by omega)) g)
  | refine ite2 (fun g => absurd (of_decide_eq_true g) (by omega)) (fun _ => ?_)
  | refine ite2 (fun g => (nd_t g (by omega)).elim) (fun _ => ?_)
  | refine ite2 (fun _ => ?_) (fun g => absurd (nd_f g) (by omega)))
local macro_rules | `(tactic| walk_at "rk") => `(tactic| (repeat (first | walk_at "r" | walk_at "k")))
section
variable {P : Program} {w : World} {K : PySem.W.Frag} {mg : Str → Option Value} {base : Heap}
theorem ok__law_ways (T : Top K mg) : Ok P w K mg base 1 "_law_ways" ["moves"] spLawWays := by
  refine ok_of T.d__law_ways sc__law_ways (fun vs H Q E h => ?_) (fun f cdv A outer s H vs Q E hr h => ?_)
  · obtain ⟨v, rows, n, top, rfl, _⟩ := h
    rfl
  · obtain ⟨v, rows, n, top, rfl, ⟨a, vs, rfl, ha, hp⟩, S, h1, h6, k⟩ := h
    have hl : (vs.length : Int) = n := by rw [prd_len hp]; exact S.len
    refine ⟨_, (pss_cons (ps_set (i := 1) sc__law_ways.nd rfl (Or.inr rfl) (pe_callB (id := "len") call_len_seq (by rfl) T.b_len (by decide +kernel) (pa_cons (pv 0) pa_nil)))
      (pss_cons (ps_set (i := 2) sc__law_ways.nd rfl (Or.inr rfl) (pe_lc (own := [("row", 6)]) (g := gName 6) rfl sc__law_ways.nd (pi_tup (pv 0)) (blkOk_by (own := [("row", 6)]) (N := ["moves", "posts", "ways", "k", "longer", "a", "row", "c", "b"]) (sc := defScope s__law_ways) (by decide +kernel)) (fun _ _ _ _ _ => (pg_name (i := 6) sc__law_ways.nd rfl (Or.inl rfl))) (fun _ _ _ _ _ => pts_nil) (fun _ _ _ _ _ => (pe_callTy (T := "list") (call_list_of : CallR _ _ (rListOf K)) (by rfl) T.b_list (by decide +kernel) (pa_cons (pv 6) pa_nil)))))
      (pss_cons (ps_for PassesOwn.never rfl (pi_range1 (by rfl) T.b_range (pa_cons (pv 1) pa_nil)) (pg_name (i := 3) sc__law_ways.nd rfl (Or.inl rfl))
      (pss_cons (ps_set (i := 4) sc__law_ways.nd rfl (Or.inl rfl) (pe_lst pa_nil))
      (pss_cons (ps_for PassesOwn.never rfl (pi_range1 (by rfl) T.b_range (pa_cons (pv 1) pa_nil)) (pg_name (i := 5) sc__law_ways.nd rfl (Or.inr rfl))
      (pss_one (ps_expr (pe_bm PySem.F.plainAttrs_list PySem.F.slot_list_append PySem.F.type_list_append mt_append (pv 4) (pa_cons (pe_lc (own := [("b", 8)]) (g := gName 8) rfl sc__law_ways.nd (pi_range1 (by rfl) T.b_range (pa_cons (pv 1) pa_nil)) (blkOk_by (own := [("b", 8)]) (N := ["moves", "posts", "ways", "k", "longer", "a", "row", "c", "b"]) (sc := defScope s__law_ways) (by decide +kernel)) (fun _ _ _ _ _ => (pg_name (i := 8) sc__law_ways.nd rfl (Or.inr rfl))) (fun _ _ _ _ _ => pts_nil) (fun _ _ _ _ _ => (pe_callB (id := "min") ((cr_min rfl) : CallR _ _ (rMin K)) (by rfl) T.b_min (by decide +kernel) (pa_cons (pe_lc (own := [("c", 7)]) (g := gName 7) rfl sc__law_ways.nd (pi_range1 (by rfl) T.b_range (pa_cons (pv 1) pa_nil)) (blkOk_fr (own := [("c", 7)]) (N := ["moves", "posts", "ways", "k", "longer", "a", "row", "c", "b"]) ["b", "ways", "a", "moves"] (by decide +kernel) ⟨(by first | exact Or.inl rfl | exact Or.inr rfl), (by first | exact Or.inl rfl | exact Or.inr rfl), (by first | exact Or.inl rfl | exact Or.inr rfl), (by first | exact Or.inl rfl | exact Or.inr rfl), True.intro⟩) (fun _ _ _ _ _ => (pg_name (i := 7) sc__law_ways.nd rfl (Or.inl rfl))) (fun _ _ _ _ _ => pts_nil) (fun _ _ _ _ _ => (pe_op op_add (pe_ix (ix_list : IxR _ (rIxL K)) (pe_ix (ix_list : IxR _ (rIxL K)) (pv 2) (pv 5) (fun _ _ => rfl)) (pv 7) (fun _ _ => rfl)) (pe_ix (ix_tup : IxR _ (rIxT K)) (pe_ix (ix_tup : IxR _ (rIxT K)) (pv 0) (pv 7) (fun _ _ => rfl)) (pv 8) (fun _ _ => rfl))))) pa_nil)))) pa_nil)))))
      (pss_one (ps_set (i := 2) sc__law_ways.nd rfl (Or.inr rfl) (pv 4))))))
      (pss_one (ps_ret (pv 2)))))), ?_⟩
    walk_at "rr"
    refine ⟨⟨_, SqT.of ha⟩, ?_⟩
    intro L nL
    refine lc_tup (K := K) (a := a) (xs := vs) (fun i H2 => ∃ as : List Addr, H2 L = some (.lst (as.map V.ref)) ∧ as.length = i ∧ (∀ (j : Nat) b, as[j]? = some b → b ≠ L ∧ H2 b = some (.lst (rowV n.toNat (mat rows j)))) ∧ Same H H2)
      ⟨[], upd_same, rfl, by simp, same_new nL⟩ (fun i H2 _ ⟨_, _, _, _, q⟩ => SqT.of (q _ _ ha)) ?_ ?_
    · rintro i x H2 hi ⟨as, e1, e2, e6, e7⟩
      obtain ⟨row, hrow, b, rfl, hb⟩ := prd_at1 hp hi
      have hb2 := e7 _ _ hb
      refine ⟨rfl, ?_⟩
      refine yesT ?_
      refine ⟨_, rfl, b, _, rfl, .inr (SqT.of hb2), fun t nt => ?_⟩
      have ntL : L ≠ t := ne_of_none e1 nt
      have ntH := e7.free nt
      refine ⟨_, (upd_ne ntL).trans e1, ?_, as ++ [t], ?_, ?_, ?_, ?_⟩
      · rw [List.length_map]; have := (List.getElem?_eq_some_iff.mp hi).1; exact small1000 (by omega)
      · rw [upd_same, List.map_append]; rfl
      · rw [List.length_append, e2]; rfl
      · intro j c hc
        by_cases hj : j < as.length
        · rw [List.getElem?_append_left hj] at hc
          obtain ⟨q1, q2⟩ := e6 j c hc
          exact ⟨q1, (upd_ne q1).trans ((upd_ne (ne_of_none q2 nt)).trans q2)⟩
        · have hj2 : j = as.length := by
            have := (List.getElem?_eq_some_iff.mp hc).1
            rw [List.length_append] at this
            simp at this
            omega
          subst hj2
          rw [List.getElem?_append_right (Nat.le_refl _), Nat.sub_self] at hc
          obtain rfl := Option.some.inj (show some t = some c from hc)
          refine ⟨ntL.symm, ?_⟩
          rw [upd_ne ntL.symm, upd_same]
          have hrm := S.row row (List.mem_of_getElem? hrow)
          rw [rowV_of (n := n.toNat) (by omega), e2]
          congr 2
          unfold rowV
          apply List.map_congr_left
          intro q _
          rw [mat_at hrow]
      · exact same_upd (same_upd e7 ntH) nL
    · rintro H1 ⟨as, e1, e2, e6, s1⟩
      have M0 : LM H1 L n.toNat (mat rows) := ⟨as, e1, by omega, fun i b hb => (e6 i b hb).2⟩
      walk_at "rr"
      refine for_range (lo := 0) (n := (vs.length : Int).toNat) (fun kk σ' H2 => ∃ (Lw : Addr) (M : Nat → Nat → Int) (o3 o4 o5 : Option V), σ' = [some (.ref a), some (.int vs.length), some (.ref Lw), o3, o4, o5, none, none, none] ∧ LM H2 Lw n.toNat M ∧
          Snd n.toNat (mat rows) M ∧ Bound n.toNat (kk + 2) (mat rows) M ∧ Same H1 H2)
        ⟨L, _, none, none, none, rfl, M0, Snd.self, Bound.two S.z, Same.refl _⟩ ?_ ?_
      · rintro kk σ' H2 hkk ⟨Lw, M, o3, o4, o5, rfl, hM, hS, hB, s2⟩
        refine ⟨(by show 0 ≤ sizeLine; decide), fun Ll nLl => ?_⟩
        walk_at "rr"
        refine for_range (lo := 0) (n := (vs.length : Int).toNat) (fun aa σ' H3 => ∃ (as' : List Addr) (o5 : Option V), σ' = [some (.ref a), some (.int vs.length), some (.ref Lw), some (.int (kk : Nat)), some (.ref Ll), o5, none, none, none] ∧ H3 Ll = some (.lst (as'.map V.ref)) ∧
            as'.length = aa ∧ (∀ (j : Nat) b, as'[j]? = some b → b ≠ Ll ∧ H3 b = some (.lst (rowV n.toNat (prodM n.toNat M (mat rows) j)))) ∧ Same H2 H3)
          ⟨[], o5, by simp [gName], upd_same, rfl, by simp, same_new nLl⟩ ?_ ?_
        · rintro aa σ' H3 haa ⟨as', o5, rfl, q1, q2, q3, q4⟩
          have haa' : aa < n.toNat := by omega
          obtain ⟨was, w1, w2, w3⟩ := hM.ex
          obtain ⟨wa, hwa⟩ : ∃ b, was[aa]? = some b := ⟨_, List.getElem?_eq_getElem (by omega)⟩
          have hwar := w3 aa wa hwa
          have s03 : Same H H3 := (s1.trans s2).trans q4
          rw [Int.zero_add]
          walk_at "rr"
          intro D nD
          refine lc_range (lo := 0) (n := (vs.length : Int).toNat) (fun b H4 => H4 D = some (.lst (((List.range b).map (prodM n.toNat M (mat rows) aa)).map V.int)) ∧ Same H3 H4) ⟨upd_same, same_new nD⟩ ?_ ?_
          · rintro b H4 hb ⟨f1, f2⟩
            have hb' : b < n.toNat := by omega
            rw [Int.zero_add]
            refine ⟨rfl, ?_⟩
            refine yesT ?_
            walk_at "rr"
            intro Ec nEc
            refine lc_range (lo := 0) (n := (vs.length : Int).toNat) (fun c H5 => H5 Ec = some (.lst (((List.range c).map fun c => M aa c + mat rows c b).map V.int)) ∧ Same H4 H5) ⟨upd_same, same_new nEc⟩ ?_ ?_
            · rintro c H5 hc ⟨g1, g2⟩
              have hc' : c < n.toNat := by omega
              have s35 : Same H3 H5 := f2.trans g2
              obtain ⟨mv, hmv⟩ : ∃ v, vs[c]? = some v := ⟨_, List.getElem?_eq_getElem (by omega)⟩
              obtain ⟨mrow, hmrow, ma, rfl, hma⟩ := prd_at1 hp hmv
              have hml := (S.row mrow (List.mem_of_getElem? hmrow)).1
              have hmb : (mrow.map V.int)[b]? = some (.int (mat rows c b)) := by
                rw [List.getElem?_map, getDat 0 (by omega), mat_at hmrow]; rfl
              rw [Int.zero_add]
              refine ⟨rfl, ?_⟩
              refine yesT ?_
              refine ⟨_, rfl, _, rfl, Lw, _, (aa : Nat), .ref wa, rfl, rfl, SqL.of (s35 _ _ (q4 _ _ w1)), atI_nat (by rw [List.getElem?_map, hwa]; rfl), _, rfl, wa, _, (c : Nat), _, rfl, rfl, SqL.of (s35 _ _ (q4 _ _ hwar)), atI_nat (rowV_at hc'), ?_⟩
              refine ⟨_, rfl, _, rfl, a, _, (c : Nat), .ref ma, rfl, rfl, SqT.of (s35 _ _ (s03 _ _ ha)), atI_nat hmv, _, rfl, ma, _, (b : Nat), _, rfl, rfl, SqT.of (s35 _ _ (s03 _ _ hma)), atI_nat hmb, _, _, rfl, rfl, ?_⟩
              refine ⟨_, g1, ?_, ?_, same_upd g2 nEc⟩
              · rw [List.length_map, List.length_map, List.length_range]; exact small1000 (by omega)
              · rw [upd_same, List.range_succ, List.map_append, List.map_append]; rfl
            · rintro H5 ⟨g1, g2⟩
              have eN : (vs.length : Int).toNat = n.toNat := by omega
              rw [eN] at g1
              refine ⟨Ec, _, rfl, SqL.of g1, (by rw [List.length_map, List.length_range]; omega), fun m hm hle => ?_⟩
              have em : prodM n.toNat M (mat rows) aa b = m := minL_eq hm hle
              refine ⟨_, g2 _ _ f1, ?_, ?_, same_upd (f2.trans g2) nD⟩
              · rw [List.length_map, List.length_map, List.length_range]; exact small1000 (by omega)
              · rw [upd_same, List.range_succ, List.map_append, List.map_append, ← em]; rfl
          · rintro H4 ⟨f1, f2⟩
            have eN : (vs.length : Int).toNat = n.toNat := by omega
            rw [eN] at f1
            have nDl : D ≠ Ll := (ne_of_none q1 nD).symm
            refine ⟨Ll, _, _, rfl, rfl, f2 _ _ q1, ?_, as' ++ [D], _, rfl, ?_, ?_, ?_, ?_⟩
            · rw [List.length_map, q2]; exact small1000 (by omega)
            · rw [upd_same, List.map_append]; rfl
            · rw [List.length_append, q2]; rfl
            · intro j c hc
              by_cases hj : j < as'.length
              · rw [List.getElem?_append_left hj] at hc
                obtain ⟨r1, r2⟩ := q3 j c hc
                exact ⟨r1, (upd_ne r1).trans (f2 _ _ r2)⟩
              · have hj2 : j = as'.length := by
                  have := (List.getElem?_eq_some_iff.mp hc).1
                  rw [List.length_append] at this
                  simp at this
                  omega
                subst hj2
                rw [List.getElem?_append_right (Nat.le_refl _), Nat.sub_self] at hc
                obtain rfl := Option.some.inj (show some D = some c from hc)
                refine ⟨nDl, ?_⟩
                rw [upd_ne nDl, f1, q2, rowV_ints]
            · exact same_upd (q4.trans f2) nLl
        · rintro σ' H3 ⟨as', o5, rfl, q1, q2, q3, q4⟩
          refine ⟨_, rfl, Ll, prodM n.toNat M (mat rows), _, _, _, rfl, ⟨as', q1, by omega, fun i b hb => (q3 i b hb).2⟩, ?_, ?_, s2.trans q4⟩
          · exact hS.step fun i j _ _ => prodM_has (by omega)
          · exact hB.step S.z (by omega) fun i j c _ _ hc => prodM_le hc
      · rintro σ' H2 ⟨Lw, M, o3, o4, o5, rfl, hM, hS, hB, s2⟩
        walk_at "rr"
        exact k Lw M H2 (s1.trans s2) hM (Least.prod S.nn hS hB (by omega))
end
end Toy

namespace Toy
open PySem PySem.Spec PyProof.Rows L2
local macro_rules | `(tactic| walk_at "hp") => `(tactic| first
  | assumption
  | exact upd_same
  | (refine Eq.trans (upd_ne (by first | assumption | (apply Ne.symm; assumption))) ?_; walk_at "hp"))
local macro_rules | `(tactic| walk_at "side") => `(tactic| first
  | exact .inl ⟨by omega, by omega⟩
  | exact .inr ⟨by omega, by omega⟩
  | exact ⟨by omega, by omega⟩
  | (show _ ≤ _; omega)
  | (show (_ : Int) < _; omega)
  | decide
  | assumption)
local macro_rules | `(tactic| walk_at "r") => `(tactic| first
  | refine ⟨_, rfl, ?_⟩
  | refine ⟨_, _, rfl, rfl, ?_⟩
  | refine ⟨_, _, _, _, rfl, rfl, SqL.of (by walk_at "hp"), rfl, ?_⟩
  | refine ⟨_, _, _, _, rfl, rfl, SqT.of (by walk_at "hp"), rfl, ?_⟩
  | refine ⟨_, _, _, _, rfl, rfl, (by walk_at "hp"), rfl, ?_⟩
  | refine And.intro rfl ?_
  | refine ⟨_, _, rfl, SqT.of (by walk_at "hp"), ?_⟩
  | refine ⟨_, _, rfl, SqL.of (by walk_at "hp"), ?_⟩
  | refine .inl ⟨_, rfl, ?_⟩
  | refine ⟨_, _, rfl, .inl (SqL.of (by walk_at "hp")), ?_⟩
  | refine ⟨_, _, rfl, .inr (SqT.of (by walk_at "hp")), ?_⟩
  | refine ⟨_, _, rfl, .inl ⟨SqL.of (by walk_at "hp"), ?_⟩⟩
  | refine And.intro (.inl ⟨rfl, _, SqL.of (by walk_at "hp")⟩) ?_
  | refine ⟨_, _, _, rfl, rfl, (by walk_at "hp"), ?_⟩
  | refine ⟨_, _, rfl, (by walk_at "hp"), ?_⟩
  | refine And.intro (by walk_at "side") ?_)
local macro_rules | `(tactic| walk_at "rr") => `(tactic| (repeat walk_at "r"))
local macro_rules | `(tactic| walk_at "k") => `(tactic| first
  | refine ite2 (fun _ => ?_) (fun g => absurd rfl g)
  | refine ite2 (fun g => absurd g (by decide)) (fun _ => ?_)
  | refine ite2 (fun _ => ?_) (fun g => absurd (decide_eq_true (by omega)) g)
  | refine ite2 (fun g => absurd (of_decide_eq_true g) (by omega)) (fun _ => ?_)
  | refine ite2 (fun g => (nd_t g (by omega)).elim) (fun _ => ?_)
  | refine ite2 (fun _ => ?_) (fun g => absurd (nd_f g) (by omega)))
local macro_rules | `(tactic| walk_at "rk") => `(tactic| (repeat (first | walk_at "r" | walk_at "k")))
def optL (n : Nat) (L : Nat → Option Int) : List V := (List.range n).map fun b => vO (L b)
theorem optL_len (n : Nat) (L : Nat → Option Int) : (optL n L).length = n := by unfold optL; rw [List.length_map, List.length_range]
theorem optL_at {n b : Nat} {L : Nat → Option Int} (h : b < n) : (optL n L)[b]? = some (vO (L b)) := by unfold optL; rw [List.getElem?_map, List.getElem?_range h]; rfl
theorem optL_set {n b : Nat} {L : Nat → Option Int} {v : Int} : (optL n L).set b (.int v) = optL n (setL L b v) := by
  apply List.ext_getElem?
  intro j
  rw [List.getElem?_set]
  by_cases hj : j < n
  · rw [optL_at hj, optL_at hj, optL_len]
    unfold setL
    by_cases e : b = j
    · subst e; rw [if_pos rfl, if_pos hj, if_pos rfl]; rfl
    · rw [if_neg e, if_neg fun z => e z.symm]
  · have h1 : (optL n L)[j]? = none := List.getElem?_eq_none (by rw [optL_len]; omega)
    have h2 : (optL n (setL L b v))[j]? = none := List.getElem?_eq_none (by rw [optL_len]; omega)
    rw [h1, h2, optL_len]
    by_cases e : b = j
    · subst e; rw [if_pos rfl, if_neg hj]
    · rw [if_neg e]
/-- what is done of a round: pairs ahead of (a, b) -/
structure Rnd (n : Nat) (R : Nat → Nat → Int) (L0 L : Nat → Option Int) (a b : Nat) : Prop where
  rl : Rl n L0 L
  dn : ∀ a' b', a' < n → b' < n → (a' < a ∨ (a' = a ∧ b' < b)) → Dn n R L0 L a' b'
theorem Rnd.start {n : Nat} {R : Nat → Nat → Int} {L : Nat → Option Int} : Rnd n R L L 0 0 := ⟨.refl, fun a' b' _ _ h => by omega⟩
theorem Rnd.next {n : Nat} {R : Nat → Nat → Int} {L0 L : Nat → Option Int} {a : Nat} (r : Rnd n R L0 L a n) : Rnd n R L0 L (a + 1) 0 := ⟨r.rl, fun a' b' h1 h2 h => r.dn a' b' h1 h2 (by omega)⟩
theorem Rnd.step {n : Nat} {R : Nat → Nat → Int} {L0 L L' : Nat → Option Int} {a b : Nat} (r : Rnd n R L0 L a b) (ha : a < n) (g : Rl n L L') (d : Dn n R L L' a b) : Rnd n R L0 L' a (b + 1) := by
  refine ⟨r.rl.trans g, fun a' b' h1 h2 h => ?_⟩
  by_cases e : a' < a ∨ (a' = a ∧ b' < b)
  · exact (r.dn a' b' h1 h2 e).mono h2 g
  · obtain ⟨rfl, rfl⟩ : a' = a ∧ b' = b := by omega
    exact Dn.now ha r.rl d
/-- from c on, loosened k times, to L -/
structure Lsn (n : Nat) (R : Nat → Nat → Int) (c : Nat → Option Int) (k : Nat) (L : Nat → Option Int) : Prop where
  up : Up n R c k L
  lo : ∀ lw : Nat → Int, (∀ a b, a < n → b < n → lw b ≤ lw a + R a b) → Snb n lw c → Snb n lw L
def spLeast : Sp := fun vs H Q _ => ∃ (mv : V) (rows : List (List Int)) (n : Int) (ca : Addr) (c : Nat → Option Int), vs = [mv, .ref ca] ∧ TupT IntT H mv rows ∧ Square n 9 rows ∧ 1 ≤ n ∧ n ≤ 6 ∧ H ca = some (.lst (optL n.toNat c)) ∧
  ∀ t L H', Same H H' → H' t = some (.lst (optL n.toNat L)) → Lsn n.toNat (mat rows) c n.toNat L → Q (.ref t) H'
section
variable {P : Program} {w : World} {K : PySem.W.Frag} {mg : Str → Option Value} {base : Heap}
theorem ok__law_least (T : Top K mg) : Ok P w K mg base 1 "_law_least" ["moves", "costs"] spLeast := by
  refine ok_of T.d__law_least sc__law_least (fun vs H Q E h => ?_) (fun f cdv A outer s H vs Q E hr h => ?_)
  · obtain ⟨mv, rows, n, ca, c, rfl, _⟩ := h
    rfl
  · obtain ⟨mv, rows, n, ca, c, rfl, ⟨a, vs, rfl, ha, hp⟩, S, h1, h6, hc, k⟩ := h
    have hl : (vs.length : Int) = n := by rw [prd_len hp]; exact S.len
    have en : (vs.length : Int).toNat = n.toNat := by omega
    refine ⟨_, (pss_cons (ps_set (i := 2) sc__law_least.nd rfl (Or.inl rfl) (pe_callTy (T := "list") call_list_of (by rfl) T.b_list (by decide +kernel) (pa_cons (pv 1) pa_nil)))
      (pss_cons (ps_for PassesOwn.never rfl (pi_range1 (by rfl) T.b_range (pa_cons (pe_callB (id := "len") call_len_seq (by rfl) T.b_len (by decide +kernel) (pa_cons (pv 0) pa_nil)) pa_nil)) (pg_name (i := 3) sc__law_least.nd rfl (Or.inl rfl))
      (pss_one (ps_for PassesOwn.never rfl (pi_range1 (by rfl) T.b_range (pa_cons (pe_callB (id := "len") call_len_seq (by rfl) T.b_len (by decide +kernel) (pa_cons (pv 0) pa_nil)) pa_nil)) (pg_name (i := 4) sc__law_least.nd rfl (Or.inl rfl))
      (pss_one (ps_for PassesOwn.never rfl (pi_range1 (by rfl) T.b_range (pa_cons (pe_callB (id := "len") call_len_seq (by rfl) T.b_len (by decide +kernel) (pa_cons (pv 0) pa_nil)) pa_nil)) (pg_name (i := 5) sc__law_least.nd rfl (Or.inl rfl))
      (pss_one (ps_if (PW.pt (pw_and (pt_cmpR op_notN (pe_ix ix_list (pv 2) (pv 4) (fun _ _ => rfl)) pe_non (nomark _)) (pw_and1 (PW.pt (pw_or (pt_cmpR op_isN (pe_ix ix_list (pv 2) (pv 5) (fun _ _ => rfl)) pe_non (nomark _)) (pw_or1 (pt_cmpR op_lt (pe_op op_add (pe_ix ix_list (pv 2) (pv 4) (fun _ _ => rfl)) (pe_ix ix_tup (pe_ix ix_tup (pv 0) (pv 4) (fun _ _ => rfl)) (pv 5) (fun _ _ => rfl))) (pe_ix ix_list (pv 2) (pv 5) (fun _ _ => rfl)) (nomark _))))))))
      (pss_one (ps_asg (pe_op op_add (pe_ix ix_list (pv 2) (pv 4) (fun _ _ => rfl)) (pe_ix ix_tup (pe_ix ix_tup (pv 0) (pv 4) (fun _ _ => rfl)) (pv 5) (fun _ _ => rfl))) (pg_sub (pv 2) (pv 5) set_list)))
      pss_nil)))))))
      (pss_one (ps_ret (pv 2))))), ?_⟩
    refine ⟨_, rfl, ca, _, rfl, .inl (SqL.of hc), fun t nt => ?_⟩
    have nat : a ≠ t := ne_of_none ha nt
    have s1 : Same H (upd H t (.lst (optL n.toNat c))) := same_new nt
    have e1 : (upd H t (.lst (optL n.toNat c))) t = some (.lst (optL n.toNat c)) := upd_same
    generalize upd H t (.lst (optL n.toNat c)) = H1 at *
    refine ⟨_, rfl, a, _, rfl, .inr (SqT.of (s1 _ _ ha)), _, rfl, by omega, by omega, ?_⟩
    refine for_range (lo := 0) (n := (vs.length : Int).toNat) (fun kk σ' H2 => ∃ (L : Nat → Option Int) (o3 o4 o5 : Option V), σ' = [some (.ref a), some (.ref ca), some (.ref t), o3, o4, o5] ∧ H2 t = some (.lst (optL n.toNat L)) ∧ Lsn n.toNat (mat rows) c kk L ∧ Keep t H1 H2)
      ⟨c, none, none, none, rfl, e1, ⟨.zero, fun lw _ h => h⟩, Keep.refl _ _⟩ ?_ ?_
    · rintro kk σ' H2 hkk ⟨L0, o3, o4, o5, rfl, e2, l2, k2⟩
      have ha2 := k2 _ _ nat (s1 _ _ ha)
      refine ⟨_, rfl, a, _, rfl, .inr (SqT.of ha2), _, rfl, by omega, by omega, ?_⟩
      refine for_range (lo := 0) (n := (vs.length : Int).toNat) (fun aa σ' H3 => ∃ (L : Nat → Option Int) (o4 o5 : Option V), σ' = [some (.ref a), some (.ref ca), some (.ref t), some (.int (kk : Nat)), o4, o5] ∧ H3 t = some (.lst (optL n.toNat L)) ∧ Rnd n.toNat (mat rows) L0 L aa 0 ∧
          (∀ lw : Nat → Int, (∀ a b, a < n.toNat → b < n.toNat → lw b ≤ lw a + mat rows a b) → Snb n.toNat lw L0 → Snb n.toNat lw L) ∧ Keep t H1 H3)
        ⟨L0, o4, o5, by simp, e2, .start, fun lw _ h => h, k2⟩ ?_ ?_
      · rintro aa σ' H3 haa ⟨L1, o4, o5, rfl, e3, r3, lo3, k3⟩
        have haa' : aa < n.toNat := by omega
        have ha3 := k3 _ _ nat (s1 _ _ ha)
        refine ⟨_, rfl, a, _, rfl, .inr (SqT.of ha3), _, rfl, by omega, by omega, ?_⟩
        refine for_range (lo := 0) (n := (vs.length : Int).toNat) (fun bb σ' H4 => ∃ (L : Nat → Option Int) (o5 : Option V), σ' = [some (.ref a), some (.ref ca), some (.ref t), some (.int (kk : Nat)), some (.int (aa : Nat)), o5] ∧ H4 t = some (.lst (optL n.toNat L)) ∧ Rnd n.toNat (mat rows) L0 L aa bb ∧
            (∀ lw : Nat → Int, (∀ a b, a < n.toNat → b < n.toNat → lw b ≤ lw a + mat rows a b) → Snb n.toNat lw L0 → Snb n.toNat lw L) ∧ Keep t H1 H4)
          ⟨L1, o5, by simp, e3, r3, lo3, k3⟩ ?_ ?_
        · rintro bb σ' H4 hbb ⟨L, o5, rfl, e4, r4, lo4, k4⟩
          have hbb' : bb < n.toNat := by omega
          have ha4 := k4 _ _ nat (s1 _ _ ha)
          obtain ⟨wr, hwr⟩ : ∃ v, vs[aa]? = some v := ⟨_, List.getElem?_eq_getElem (by omega)⟩
          obtain ⟨wrow, hwrow, ⟨wra, rfl, hwra⟩⟩ := prd_at1 hp hwr
          have hwl2 := (S.row wrow (List.mem_of_getElem? hwrow)).1
          have nwt : wra ≠ t := ne_of_none hwra nt
          have hwra4 := k4 _ _ nwt (s1 _ _ hwra)
          have r2 : (wrow.map V.int)[bb]? = some (.int (mat rows aa bb)) := by rw [List.getElem?_map, getDat 0 (by omega), mat_at hwrow]; rfl
          have hskip : (∀ x, L aa = some x → ∃ y, L bb = some y ∧ y ≤ x + mat rows aa bb) → ∃ (L : Nat → Option Int) (o5 : Option V), [some (.ref a), some (.ref ca), some (.ref t), some (.int (kk : Nat)), some (.int (aa : Nat)), some (.int (bb : Nat))] = [some (.ref a), some (.ref ca), some (.ref t), some (.int (kk : Nat)), some (.int (aa : Nat)), o5] ∧ H4 t = some (.lst (optL n.toNat L)) ∧ Rnd n.toNat (mat rows) L0 L aa (bb + 1) ∧
            (∀ lw : Nat → Int, (∀ a b, a < n.toNat → b < n.toNat → lw b ≤ lw a + mat rows a b) → Snb n.toNat lw L0 → Snb n.toNat lw L) ∧ Keep t H1 H4 := fun h => ⟨L, _, rfl, e4, r4.step haa' .refl h, lo4, k4⟩
          simp only [Int.zero_add]
          refine ⟨_, rfl, _, rfl, t, _, (aa : Nat), _, rfl, rfl, SqL.of e4, atI_nat (optL_at haa'), ?_⟩
          refine ⟨rfl, _, rfl, ?_⟩
          cases hla : L aa with
          | none =>
            refine ite2 (fun g => absurd g (by decide)) (fun _ => ?_)
            exact hskip fun x hx => by rw [hla] at hx; cases hx
          | some x =>
            refine ite2 (fun _ => ?_) (fun g => absurd rfl g)
            refine ⟨_, rfl, _, rfl, t, _, (bb : Nat), _, rfl, rfl, SqL.of e4, atI_nat (optL_at hbb'), ?_⟩
            have hat := optL_at (L := L) haa'
            rw [hla] at hat
            have hput : ∀ H5, H5 = upd H4 t (.lst ((optL n.toNat L).set bb (.int (x + mat rows aa bb)))) → Rl n.toNat L (setL L bb (x + mat rows aa bb)) → ∃ (L' : Nat → Option Int) (o5 : Option V), [some (.ref a), some (.ref ca), some (.ref t), some (.int (kk : Nat)), some (.int (aa : Nat)), some (.int (bb : Nat))] = [some (.ref a), some (.ref ca), some (.ref t), some (.int (kk : Nat)), some (.int (aa : Nat)), o5] ∧
                H5 t = some (.lst (optL n.toNat L')) ∧ Rnd n.toNat (mat rows) L0 L' aa (bb + 1) ∧
                (∀ lw : Nat → Int, (∀ a b, a < n.toNat → b < n.toNat → lw b ≤ lw a + mat rows a b) → Snb n.toNat lw L0 → Snb n.toNat lw L') ∧ Keep t H1 H5 := fun H5 e5 h =>
              ⟨setL L bb (x + mat rows aa bb), _, rfl, by rw [e5, upd_same, optL_set], r4.step haa' h fun x' hx' => ⟨x + mat rows aa bb, by unfold setL; rw [if_pos rfl], by rw [hla] at hx'; cases hx'; exact Int.le_refl _⟩, fun lw tri h0 => (lo4 lw tri h0).set haa' hla (tri aa bb haa' hbb'), by rw [e5]; exact k4.trans Keep.upd⟩
            refine ⟨rfl, _, rfl, ?_⟩
            cases hlb : L bb with
            | none =>
              refine ite2 (fun _ => ?_) (fun g => absurd rfl g)
              refine ⟨_, rfl, _, rfl, t, _, (aa : Nat), _, rfl, rfl, SqL.of e4, atI_nat hat, _, rfl, _, rfl, a, _, (aa : Nat), _, rfl, rfl, SqT.of ha4, atI_nat hwr, _, rfl, wra, _, (bb : Nat), _, rfl, rfl, SqT.of hwra4, atI_nat r2, _, _, rfl, rfl, ?_⟩
              refine ⟨_, rfl, _, rfl, t, _, (bb : Nat), bb, rfl, rfl, e4, ?_, ?_⟩
              · unfold ixN
                rw [optL_len, if_pos (by omega), if_pos (by omega)]
                rfl
              · exact hput _ rfl (Rl.set fun y hy => by rw [hlb] at hy; cases hy)
            | some y =>
              have hbt := optL_at (L := L) hbb'
              rw [hlb] at hbt
              refine ite2 (fun g => nomatch (of_decide_eq_true g)) (fun _ => ?_)
              refine ⟨_, rfl, _, rfl, t, _, (aa : Nat), _, rfl, rfl, SqL.of e4, atI_nat hat, _, rfl, _, rfl, a, _, (aa : Nat), _, rfl, rfl, SqT.of ha4, atI_nat hwr, _, rfl, wra, _, (bb : Nat), _, rfl, rfl, SqT.of hwra4, atI_nat r2, _, _, rfl, rfl, ?_⟩
              refine ⟨_, rfl, _, rfl, t, _, (bb : Nat), _, rfl, rfl, SqL.of e4, atI_nat hbt, _, _, rfl, rfl, _, rfl, ?_⟩
              refine ite2 (fun g => ?_) (fun g => ?_)
              · have g := of_decide_eq_true g
                refine ⟨_, rfl, _, rfl, t, _, (aa : Nat), _, rfl, rfl, SqL.of e4, atI_nat hat, _, rfl, _, rfl, a, _, (aa : Nat), _, rfl, rfl, SqT.of ha4, atI_nat hwr, _, rfl, wra, _, (bb : Nat), _, rfl, rfl, SqT.of hwra4, atI_nat r2, _, _, rfl, rfl, ?_⟩
                refine ⟨_, rfl, _, rfl, t, _, (bb : Nat), bb, rfl, rfl, e4, ?_, ?_⟩
                · unfold ixN
                  rw [optL_len, if_pos (by omega), if_pos (by omega)]
                  rfl
                · exact hput _ rfl (Rl.set fun y' hy => by rw [hlb] at hy; cases hy; omega)
              · have g : ¬ x + mat rows aa bb < y := fun z => g (decide_eq_true z)
                exact hskip fun x' hx => by rw [hla] at hx; cases hx; exact ⟨y, hlb, by omega⟩
        · rintro σ' H4 ⟨L, o5, rfl, e4, r4, lo4, k4⟩
          rw [en] at r4
          exact ⟨L, _, _, rfl, e4, r4.next, lo4, k4⟩
      · rintro σ' H3 ⟨L, o4, o5, rfl, e3, r3, lo3, k3⟩
        rw [en] at r3
        refine ⟨L, _, _, _, rfl, e3, ⟨l2.up.step r3.rl fun a b ha hb => r3.dn a b ha hb (.inl ha), fun lw tri h => lo3 lw tri (l2.lo lw tri h)⟩, k3⟩
    · rintro σ' H2 ⟨L, o3, o4, o5, rfl, e2, l2, k2⟩
      rw [en] at l2
      exact ⟨_, rfl, k t L H2 (fun b o e => k2 _ _ (ne_of_none e nt) (s1 _ _ e)) e2 l2⟩
end
end Toy

namespace Toy
open PySem PySem.Spec PyProof.Rows L2
local macro_rules | `(tactic| walk_at "hp") => `(tactic| first
  | assumption
  | exact upd_same
  | (refine Eq.trans (upd_ne (by first | assumption | (apply Ne.symm; assumption))) ?_; walk_at "hp"))
local macro_rules | `(tactic| walk_at "side") => `(tactic| first
  | exact .inl ⟨by omega, by omega⟩
  | exact .inr ⟨by omega, by omega⟩
  | exact ⟨by omega, by omega⟩
  | (show _ ≤ _; omega)
  | (show (_ : Int) < _; omega)
  | decide
  | assumption)
local macro_rules | `(tactic| walk_at "r") => `(tactic| first
  | refine ⟨_, rfl, ?_⟩
  | refine ⟨_, _, rfl, rfl, ?_⟩
  | refine ⟨_, _, _, _, rfl, rfl, SqL.of (by walk_at "hp"), rfl, ?_⟩
  | refine ⟨_, _, _, _, rfl, rfl, SqT.of (by walk_at "hp"), rfl, ?_⟩
  | refine ⟨_, _, _, _, rfl, rfl, (by walk_at "hp"), rfl, ?_⟩
  | refine And.intro rfl ?_
  | refine ⟨_, _, rfl, SqT.of (by walk_at "hp"), ?_⟩
  | refine ⟨_, _, rfl, SqL.of (by walk_at "hp"), ?_⟩
  | refine .inl ⟨_, rfl, ?_⟩
  | refine ⟨_, _, rfl, .inl (SqL.of (by walk_at "hp")), ?_⟩
  | refine ⟨_, _, rfl, .inr (SqT.of (by walk_at "hp")), ?_⟩
  | refine ⟨_, _, rfl, .inl ⟨SqL.of (by walk_at "hp"), ?_⟩⟩
  | refine And.intro (.inl ⟨rfl, _, SqL.of (by walk_at "hp")⟩) ?_
  | refine ⟨_, _, _, rfl, rfl, (by walk_at "hp"), ?_⟩
  | refine ⟨_, _, rfl, (by walk_at "hp"), ?_⟩
  | refine And.intro (by walk_at "side") ?_)
local macro_rules | `(tactic| walk_at "rr") => `(tactic| (repeat walk_at "r"))
local macro_rules | `(tactic| walk_at "k") => `(tactic| first
  | refine ite2 (fun _ => ?_) (fun g => absurd rfl g)
  | refine ite2 (fun g => absurd g (by decide)) (fun _ => ?_)
  | refine ite2 (fun _ => ?_) (fun g => absurd (decide_eq_true (by omega)) g)
  | refine ite2 (fun g => absurd (of_decide_eq_true g) (by omega)) (fun _ => ?_)
  | refine ite2 (fun g => (nd_t g (by omega)).elim) (fun _ => ?_)
  | refine ite2 (fun _ => ?_) (fun g => absurd (nd_f g) (by omega)))
local macro_rules | `(tactic| walk_at "rk") => `(tactic| (repeat (first | walk_at "r" | walk_at "k")))
/-- numbers closed by the ways -/
def clAt (n : Nat) (ws : List (List Int)) (dr : List Int) (b : Nat) : Int := minL ((List.range n).map fun a => dr.getD a 0 + mat ws a b)
def clL (n : Nat) (ws : List (List Int)) (dr : List Int) : List Int := (List.range n).map (clAt n ws dr)
theorem clL_len {n : Nat} {ws : List (List Int)} {dr : List Int} : (clL n ws dr).length = n := by unfold clL; rw [List.length_map, List.length_range]
theorem clL_at {n b : Nat} {ws : List (List Int)} {dr : List Int} (h : b < n) : (clL n ws dr).getD b 0 = clAt n ws dr b := by
  unfold clL
  rw [List.getD_eq_getElem?_getD, List.getElem?_map, List.getElem?_range h]
  rfl
theorem clAt_le {n a b : Nat} {ws : List (List Int)} {dr : List Int} (h : a < n) : clAt n ws dr b ≤ dr.getD a 0 + mat ws a b := minL_le (List.mem_map.mpr ⟨a, List.mem_range.mpr h, rfl⟩)
theorem clAt_has {n b : Nat} {ws : List (List Int)} {dr : List Int} (h : 0 < n) : ∃ a, a < n ∧ clAt n ws dr b = dr.getD a 0 + mat ws a b := by
  have hne : (List.range n).map (fun a => dr.getD a 0 + mat ws a b) ≠ [] := by
    intro e
    have := congrArg List.length e
    rw [List.length_map, List.length_range] at this
    simp at this
    omega
  obtain ⟨a, ha, e⟩ := List.mem_map.mp (minL_mem hne)
  exact ⟨a, List.mem_range.mp ha, e.symm⟩
theorem closed_ok {n : Nat} {ws : List (List Int)} {dr : List Int} (M : Met n ws) (hn : 0 < n) : OffOk n ws (newOff (clL n ws dr)) := by
  have hr : (clL n ws dr).length = n := clL_len
  obtain ⟨⟨b0, hb0, e0⟩, hmin⟩ := min_at (r := clL n ws dr) (by omega)
  refine ⟨by unfold newOff; rw [List.length_map]; exact hr, fun b hb => ?_, ⟨b0, by omega, ?_⟩, fun a b ha hb => ?_⟩
  · rw [newOff_at (by omega)]
    have := hmin b (by omega)
    omega
  · rw [newOff_at hb0]; omega
  · rw [newOff_at (by omega), newOff_at (by omega), clL_at ha, clL_at hb]
    obtain ⟨p, hp, e⟩ := clAt_has (ws := ws) (dr := dr) (b := a) hn
    have h1 := clAt_le (ws := ws) (dr := dr) (b := b) hp
    have h2 := M.tri p a b hp ha hb
    omega
def spOffsets : Sp := fun vs H Q _ => ∃ (d c L : Addr) (M : Nat → Nat → Int) (n : Int) (ws : List (List Int)) (most : Int), vs = [.ref d, .ref L, .int most] ∧ Dice c H d ∧ L ≠ d ∧ LM H L n.toNat M ∧ (∀ i j, i < n.toNat → j < n.toNat → M i j = mat ws i j) ∧ Met n.toNat ws ∧ 1 ≤ n ∧ n ≤ 6 ∧ 0 ≤ most ∧ most ≤ 10 ^ 20 ∧
  ∀ v off H', Keep d H H' → Dice c H' d → IntT H' v off → OffOk n.toNat ws off → Q v H'
section
variable {P : Program} {w : World} {K : PySem.W.Frag} {mg : Str → Option Value} {base : Heap}
theorem ok__law_offsets (T : Top K mg) : Ok P w K mg base 2 "_law_offsets" ["dice", "ways", "most"] spOffsets := by
  refine ok_of T.d__law_offsets sc__law_offsets (fun vs H Q E h => ?_) (fun f cdv A outer s H vs Q E hr h => ?_)
  · obtain ⟨d, c, L, M, n, ws, most, rfl, _⟩ := h
    rfl
  · obtain ⟨d, c, L, M, n, ws, most, rfl, D, nLd, hM, hMw, met, h1, h6, m0, m1, k⟩ := h
    obtain ⟨f__law_draw, fd__law_draw, m__law_draw, k__law_draw, b__law_draw, G__law_draw⟩ := ok__law_draw (P := P) (w := w) (base := base) T
    have hr__law_draw : Room 1 _ := hr.mono (by decide)
    obtain ⟨was, w1, w2, w3⟩ := hM.ex
    have hwn : ((was.map V.ref).length : Int).toNat = n.toNat := by rw [List.length_map]; omega
    have nwd : ∀ i b, was[i]? = some b → b ≠ d := fun i b hb => by
      intro z; subst z
      obtain ⟨cells, i', b', s', t', e, _⟩ := D.ex
      rw [w3 i b hb] at e
      have h0 := rowV_at (n := n.toNat) (f := M i) (j := 0) (by omega)
      injection e with e
      injection e with e
      rw [e] at h0
      cases h0
    refine ⟨_, (pss_cons (ps_set (i := 3) sc__law_offsets.nd rfl (Or.inr rfl) (pe_lc (own := [("post", 7)]) (g := gName 7) rfl sc__law_offsets.nd (pi_range1 (by rfl) T.b_range (pa_cons (pe_callB (id := "len") call_len_seq (by rfl) T.b_len (by decide +kernel) (pa_cons (pv 1) pa_nil)) pa_nil)) (blkOk_by (own := [("post", 7)]) (N := ["dice", "ways", "most", "drawn", "closed", "b", "low", "post", "a", "item"]) (sc := defScope s__law_offsets) (by decide +kernel)) (fun _ _ _ _ _ => (pg_name (i := 7) sc__law_offsets.nd rfl (Or.inl rfl))) (fun _ _ _ _ _ => pts_nil) (fun _ _ _ _ _ => (pe_call G__law_draw hr__law_draw rfl m__law_draw k__law_draw b__law_draw .nil pass0 (pa_cons (pv 0) (pa_cons (pe_op op_add (pv 2) pe_int) pa_nil))))))
      (pss_cons (ps_set (i := 4) sc__law_offsets.nd rfl (Or.inl rfl) (pe_lst pa_nil))
      (pss_cons (ps_for PassesOwn.never rfl (pi_range1 (by rfl) T.b_range (pa_cons (pe_callB (id := "len") call_len_seq (by rfl) T.b_len (by decide +kernel) (pa_cons (pv 1) pa_nil)) pa_nil)) (pg_name (i := 5) sc__law_offsets.nd rfl (Or.inr rfl))
      (pss_one (ps_expr (pe_bm PySem.F.plainAttrs_list PySem.F.slot_list_append PySem.F.type_list_append mt_append (pv 4) (pa_cons (pe_callB (id := "min") (cr_min rfl) (by rfl) T.b_min (by decide +kernel) (pa_cons (pe_lc (own := [("a", 8)]) (g := gName 8) rfl sc__law_offsets.nd (pi_range1 (by rfl) T.b_range (pa_cons (pe_callB (id := "len") call_len_seq (by rfl) T.b_len (by decide +kernel) (pa_cons (pv 1) pa_nil)) pa_nil)) (blkOk_by (own := [("a", 8)]) (N := ["dice", "ways", "most", "drawn", "closed", "b", "low", "post", "a", "item"]) (sc := defScope s__law_offsets) (by decide +kernel)) (fun _ _ _ _ _ => (pg_name (i := 8) sc__law_offsets.nd rfl (Or.inl rfl))) (fun _ _ _ _ _ => pts_nil) (fun _ _ _ _ _ => (pe_op op_add (pe_ix (ix_list : IxR _ (rIxL K)) (pv 3) (pv 8) (fun _ _ => rfl)) (pe_ix (ix_list : IxR _ (rIxL K)) (pe_ix (ix_list : IxR _ (rIxL K)) (pv 1) (pv 8) (fun _ _ => rfl)) (pv 5) (fun _ _ => rfl))))) pa_nil)) pa_nil)))))
      (pss_cons (ps_set (i := 6) sc__law_offsets.nd rfl (Or.inr rfl) (pe_callB (id := "min") (cr_min rfl) (by rfl) T.b_min (by decide +kernel) (pa_cons (pv 4) pa_nil)))
      (pss_one (ps_ret (pe_callTy (T := "tuple") call_tuple_of (by rfl) T.b_tuple (by decide +kernel) (pa_cons (pe_lc (own := [("item", 9)]) (g := gName 9) rfl sc__law_offsets.nd (pi_list (pv 4)) (blkOk_by (own := [("item", 9)]) (N := ["dice", "ways", "most", "drawn", "closed", "b", "low", "post", "a", "item"]) (sc := defScope s__law_offsets) (by decide +kernel)) (fun _ _ _ _ _ => (pg_name (i := 9) sc__law_offsets.nd rfl (Or.inl rfl))) (fun _ _ _ _ _ => pts_nil) (fun _ _ _ _ _ => (pe_op op_sub (pv 9) (pv 6)))) pa_nil)))))))), ?_⟩
    refine ⟨_, rfl, L, _, rfl, .inl (SqL.of w1), _, rfl, by rw [List.length_map]; omega, by rw [List.length_map]; omega, fun D1 nD1 => ?_⟩
    have nD1d := D.ne nD1
    have nD1c := D.nc nD1
    refine lc_range (lo := 0) (n := ((was.map V.ref).length : Int).toNat) (fun j H3 => ∃ xs : List Int, H3 D1 = some (.lst (xs.map V.int)) ∧ xs.length = j ∧ Keep d H H3 ∧ Dice c H3 d)
      ⟨[], upd_same, rfl, same_keep (same_new nD1), D.upd nD1d nD1c⟩ ?_ ?_
    · rintro j H3 hj ⟨xs, hL, f1, k3, D3⟩
      refine ⟨rfl, ?_⟩
      refine yesT ?_
      refine ⟨_, rfl, _, rfl, _, _, rfl, rfl, ?_⟩
      refine ⟨_, c, _, rfl, D3, by omega, by omega, fun v H4 v0 v1 k4 D4 => ?_⟩
      refine ⟨_, k4 _ _ nD1d hL, ?_, xs ++ [v], ?_, ?_, (k3.trans k4).mut nD1, D4.upd nD1d nD1c⟩
      · rw [List.length_map]; exact small1000 (by omega)
      · rw [upd_same, List.map_append]; rfl
      · rw [List.length_append, f1]; rfl
    · rintro H3 ⟨dr, e3, f3, k3, D3⟩
      have w13 := k3 _ _ nLd w1
      have w33 : ∀ i b, was[i]? = some b → H3 b = some (.lst (rowV n.toNat (M i))) := fun i b hb => k3 _ _ (nwd i b hb) (w3 i b hb)
      refine ⟨(by show 0 ≤ sizeLine; decide), fun C nC => ?_⟩
      have nCd := D3.ne nC
      have nCc := D3.nc nC
      have sC : Same H3 (upd H3 C (.lst [])) := same_new nC
      refine ⟨_, rfl, L, _, rfl, .inl (SqL.of (sC _ _ w13)), _, rfl, by rw [List.length_map]; omega, by rw [List.length_map]; omega, ?_⟩
      refine for_range (lo := 0) (n := ((was.map V.ref).length : Int).toNat) (fun i σ' H4 => ∃ (o5 : Option V), σ' = [some (.ref d), some (.ref L), some (.int most), some (.ref D1), some (.ref C), o5, none, none, none, none] ∧ H4 C = some (.lst (((List.range i).map (clAt n.toNat ws dr)).map V.int)) ∧ Same H3 H4)
        ⟨none, rfl, upd_same, sC⟩ ?_ ?_
      · rintro b σ' H4 hb ⟨o5, rfl, e4, s4⟩
        have hb' : b < n.toNat := by omega
        rw [Int.zero_add]
        refine ⟨_, rfl, .inl ⟨rfl, _, SqL.of e4⟩, _, rfl, L, _, rfl, .inl (SqL.of (s4 _ _ w13)), _, rfl, by rw [List.length_map]; omega, by rw [List.length_map]; omega, fun E nE => ?_⟩
        refine lc_range (lo := 0) (n := ((was.map V.ref).length : Int).toNat) (fun a H5 => H5 E = some (.lst (((List.range a).map fun a => dr.getD a 0 + mat ws a b).map V.int)) ∧ Same H4 H5) ⟨upd_same, same_new nE⟩ ?_ ?_
        · rintro a H5 ha ⟨g1, g2⟩
          have ha' : a < n.toNat := by omega
          obtain ⟨wa, hwa⟩ : ∃ b, was[a]? = some b := ⟨_, List.getElem?_eq_getElem (by omega)⟩
          have s5 := s4.trans g2
          have hdr : (dr.map V.int)[a]? = some (.int (dr.getD a 0)) := by rw [List.getElem?_map, getDat 0 (by omega)]; rfl
          have hmb : (rowV n.toNat (M a))[b]? = some (.int (mat ws a b)) := by rw [rowV_at hb', hMw a b ha' hb']
          rw [Int.zero_add]
          refine ⟨rfl, ?_⟩
          refine yesT ?_
          refine ⟨_, rfl, _, rfl, D1, _, (a : Nat), _, rfl, rfl, SqL.of (s5 _ _ e3), atI_nat hdr, _, rfl, _, rfl, L, _, (a : Nat), .ref wa, rfl, rfl, SqL.of (s5 _ _ w13), atI_nat (by rw [List.getElem?_map, hwa]; rfl), _, rfl, wa, _, (b : Nat), _, rfl, rfl, SqL.of (s5 _ _ (w33 a wa hwa)), atI_nat hmb, _, _, rfl, rfl, ?_⟩
          refine ⟨_, g1, ?_, ?_, same_upd g2 nE⟩
          · rw [List.length_map, List.length_map, List.length_range]; exact small1000 (by omega)
          · rw [upd_same, List.range_succ, List.map_append, List.map_append]; rfl
        · rintro H5 ⟨g1, g2⟩
          rw [hwn] at g1
          refine ⟨E, _, rfl, SqL.of g1, (by rw [List.length_map, List.length_range]; omega), fun m hm hle => ?_⟩
          have em : clAt n.toNat ws dr b = m := minL_eq hm hle
          refine ⟨C, _, _, rfl, rfl, g2 _ _ e4, ?_, _, rfl, ?_, same_upd (s4.trans g2) nC⟩
          · rw [List.length_map, List.length_map, List.length_range]; exact small1000 (by omega)
          · rw [upd_same, List.range_succ, List.map_append, List.map_append, ← em]; rfl
      · rintro σ' H4 ⟨o5, rfl, e4, s4⟩
        rw [hwn] at e4
        have e4 : H4 C = some (.lst ((clL n.toNat ws dr).map V.int)) := e4
        have hcl : (clL n.toNat ws dr).length = n.toNat := clL_len
        have okc := closed_ok (dr := dr) met (by omega)
        generalize clL n.toNat ws dr = cl at e4 hcl okc
        refine ⟨_, rfl, C, _, rfl, SqL.of e4, by omega, fun m hm hle => ?_⟩
        have em : minL cl = m := minL_eq hm hle
        subst em
        refine ⟨_, rfl, C, rfl, ⟨_, SqL.of e4⟩, fun D3' nD3 => ?_⟩
        refine lc_list (K := K) (a := C) (xs := cl.map V.int) (fun j H5 => H5 D3' = some (.lst (((cl.take j).map fun c => c - minL cl).map V.int)) ∧ Same H4 H5) ⟨upd_same, same_new nD3⟩ (fun j H5 _ h5 => SqL.of (h5.2 _ _ e4)) ?_ ?_
        · rintro j x H5 hj ⟨q1, q2⟩
          obtain ⟨y, hy, rfl⟩ := map_at hj
          refine ⟨rfl, ?_⟩
          refine yesT ?_
          refine ⟨_, rfl, _, rfl, _, _, rfl, rfl, ?_⟩
          refine ⟨_, q1, ?_, ?_, same_upd q2 nD3⟩
          · rw [List.length_map, List.length_map, List.length_take]; exact small1000 (Nat.le_trans (Nat.min_le_right _ _) (by have := (List.getElem?_eq_some_iff.mp hy).1; omega))
          · rw [upd_same, List.take_add_one, hy, List.map_append, List.map_append]; rfl
        · rintro H5 ⟨q1, q2⟩
          rw [List.length_map, List.take_length] at q1
          refine ⟨D3', _, rfl, .inl ⟨SqL.of q1, fun tt ntt => ?_⟩⟩
          have s5 : Same H3 (upd H5 tt (.tup ((cl.map fun c => c - minL cl).map V.int))) := (s4.trans q2).trans (same_new ntt)
          exact k _ (newOff cl) _ (k3.trans (same_keep s5)) (D3.same s5) ⟨tt, rfl, upd_same⟩ okc
end
end Toy

namespace Toy
open PySem PySem.Spec PyProof.Rows L2
local macro_rules | `(tactic| walk_at "hp") => `(tactic| first
  | assumption
  | exact upd_same
  | (refine Eq.trans (upd_ne (by first | assumption | (apply Ne.symm; assumption))) ?_; walk_at "hp"))
local macro_rules | `(tactic| walk_at "side") => `(tactic| first
  | exact .inl ⟨by omega, by omega⟩
  | exact .inr ⟨by omega, by omega⟩
  | exact ⟨by omega, by omega⟩
  | (show _ ≤ _; omega)
  | (show (_ : Int) < _; omega)
  | decide
  | assumption)
local macro_rules | `(tactic| walk_at "r") => `(tactic| first
  | refine ⟨_, rfl, ?_⟩
  | refine ⟨_, _, rfl, rfl, ?_⟩
  | refine ⟨_, _, _, _, rfl, rfl, SqL.of (by walk_at "hp"), rfl, ?_⟩
  | refine ⟨_, _, _, _, rfl, rfl, SqT.of (by walk_at "hp"), rfl, ?_⟩
  | refine ⟨_, _, _, _, rfl, rfl, (by walk_at "hp"), rfl, ?_⟩
  | refine And.intro rfl ?_
  | refine ⟨_, _, rfl, SqT.of (by walk_at "hp"), ?_⟩
  | refine ⟨_, _, rfl, SqL.of (by walk_at "hp"), ?_⟩
  | refine .inl ⟨_, rfl, ?_⟩
  | refine ⟨_, _, rfl, .inl (SqL.of (by walk_at "hp")), ?_⟩
  | refine ⟨_, _, rfl, .inr (SqT.of (by walk_at "hp")), ?_⟩
  | refine ⟨_, _, rfl, .inl ⟨SqL.of (by walk_at "hp"), ?_⟩⟩
  | refine And.intro (.inl ⟨rfl, _, SqL.of (by walk_at "hp")⟩) ?_
  | refine ⟨_, _, _, rfl, rfl, (by walk_at "hp"), ?_⟩
  | refine ⟨_, _, rfl, (by walk_at "hp"), ?_⟩
  | refine And.intro (by walk_at "side") ?_)
local macro_rules | `(tactic| walk_at "rr") => `(tactic| (repeat walk_at "r"))
local macro_rules | `(tactic| walk_at "k") => `(tactic| first
  | refine ite2 (fun _ => ?_) (fun g => absurd rfl g)
  | refine ite2 (fun g => absurd g (by decide)) (fun _ => ?_)
  | refine ite2 (fun _ => ?_) (fun g => absurd (decide_eq_true (by omega)) g)
  | refine ite2 (fun g => absurd (of_decide_eq_true g) (by omega)) (fun _ => ?_)
  | refine ite2 (fun g => (nd_t g (by omega)).elim) (fun _ => ?_)
  | refine ite2 (fun _ => ?_) (fun g => absurd (nd_f g) (by omega)))
local macro_rules | `(tactic| walk_at "rk") => `(tactic| (repeat (first | walk_at "r" | walk_at "k")))
def spRight : Sp := fun vs H Q _ => ∃ (mv ov pv tv : V) (t : Addr) (rows : List (List Int)) (n r : Int) (off raw : List Int) (row : List (Option Int)) (ws : List (List Int)), vs = [mv, ov, pv, .ref t] ∧ TupT IntT H mv rows ∧ Square n 9 rows ∧ 1 ≤ n ∧ n ≤ 6 ∧ IntT H ov off ∧ off.length = n.toNat ∧
  OptT H pv row ∧ (row.length : Int) = n ∧ (∃ x : Int, some x ∈ row) ∧ Least n.toNat (mat rows) (mat ws) ∧ raw = rawL n.toNat ws (srv n.toNat off row) ∧ r = minL raw ∧ H t = some (.tup [tv, .int r]) ∧ IntT H tv (newOff raw) ∧ ∀ H', Same H H' → Q (.bl true) H'
section
variable {P : Program} {w : World} {K : PySem.W.Frag} {mg : Str → Option Value} {base : Heap}
theorem ok__law_right (T : Top K mg) : Ok P w K mg base 2 "_law_right" ["moves", "offsets", "prices", "told"] spRight := by
  refine ok_of T.d__law_right sc__law_right (fun vs H Q E h => ?_) (fun f cdv A outer s H vs Q E hr h => ?_)
  · obtain ⟨mv, ov, pv, tv, t, rows, n, r, off, raw, row, ws, rfl, _⟩ := h
    rfl
  · obtain ⟨mv, ov, pv, tv, t, rows, n, r, off, raw, row, ws, rfl, ⟨a, vs, rfl, ha, hp⟩, S, h1, h6, ⟨oa, rfl, ho⟩, hol, ⟨pa, rfl, hpa⟩, hrl, hsome, lst, hraw, hr0, ht, ⟨ta, rfl, hta⟩, k⟩ := h
    obtain ⟨f__law_is_integer, fd__law_is_integer, m__law_is_integer, k__law_is_integer, b__law_is_integer, G__law_is_integer⟩ := ok__law_is_integer (P := P) (w := w) (base := base) T
    have hr__law_is_integer : Room 1 _ := hr.mono (by decide)
    obtain ⟨f__law_least, fd__law_least, m__law_least, k__law_least, b__law_least, G__law_least⟩ := ok__law_least (P := P) (w := w) (base := base) T
    have hr__law_least : Room 1 _ := hr.mono (by decide)
    have hu64 := hr.units
    have hl : (vs.length : Int) = n := by rw [prd_len hp]; exact S.len
    have met := lst.met S.nn
    have O := OffOk.step (off := off) met (show 0 < n.toNat by omega) (show row.length = n.toNat by omega) hsome
    rw [← hraw] at O
    have hrw : raw.length = n.toNat := by rw [hraw]; exact rawL_len
    refine ⟨_, (pss_cons (ps_set (i := 4) sc__law_right.nd rfl (Or.inl rfl) (pe_callB (id := "len") call_len_seq (by rfl) T.b_len (by decide +kernel) (pa_cons (pv 0) pa_nil)))
      (pss_cons (ps_if (PW.pt (pw_or (pt_not (pt_val (pe_callB (id := "isinstance") (call_isN (T := "tuple")) (by rfl) T.b_isinstance (by decide +kernel) (pa_cons (pv 3) (pa_cons (pe_bltn (v := .ty "tuple") (u := .type "tuple") (by rfl) T.b_tuple (by decide +kernel) rfl) pa_nil))))) (pw_or (pt_cmpR op_ne (pe_callB (id := "len") call_len_seq (by rfl) T.b_len (by decide +kernel) (pa_cons (pv 3) pa_nil)) pe_int (nomark _)) (pw_or1 (pt_not (pt_val (pe_call G__law_is_integer hr__law_is_integer rfl m__law_is_integer k__law_is_integer b__law_is_integer .nil pass0 (pa_cons (pe_ix ix_tup (pv 3) pe_int (fun _ _ => rfl)) pa_nil))))))))
      (pss_one (ps_ret pe_bl))
      pss_nil)
      (pss_cons (ps_if (PW.pt (pw_or (pt_not (pt_val (pe_callB (id := "isinstance") (call_isN (T := "tuple")) (by rfl) T.b_isinstance (by decide +kernel) (pa_cons (pe_ix ix_tup (pv 3) pe_int (fun _ _ => rfl)) (pa_cons (pe_bltn (v := .ty "tuple") (u := .type "tuple") (by rfl) T.b_tuple (by decide +kernel) rfl) pa_nil))))) (pw_or1 (pt_cmpR op_ne (pe_callB (id := "len") call_len_seq (by rfl) T.b_len (by decide +kernel) (pa_cons (pe_ix ix_tup (pv 3) pe_int (fun _ _ => rfl)) pa_nil)) (pv 4) (nomark _)))))
      (pss_one (ps_ret pe_bl))
      pss_nil)
      (pss_cons (ps_setLc (i := 5) (own := [("post", 6)]) (g := gName 6) rfl sc__law_right.nd rfl rfl (sw_true rfl rfl rfl (by decide +kernel)) (pi_range1 (by rfl) T.b_range (pa_cons (pv 4) pa_nil)) (blkOk_by (own := [("post", 6)]) (N := ["moves", "offsets", "prices", "told", "posts", "costs", "post", "least", "a"]) (sc := defScope s__law_right) (by decide +kernel)) (fun _ _ _ _ _ => (pg_name (i := 6) sc__law_right.nd rfl (Or.inl rfl))) (fun _ _ _ _ _ => pts_nil) (fun _ _ _ _ _ => pe_non))
      (pss_cons (ps_for PassesOwn.never rfl (pi_range1 (by rfl) T.b_range (pa_cons (pv 4) pa_nil)) (pg_name (i := 6) sc__law_right.nd rfl (Or.inl rfl))
      (pss_one (ps_if (pt_cmpR op_notN (pe_ix ix_tup (pv 2) (pv 6) (fun _ _ => rfl)) pe_non (nomark _))
      (pss_one (ps_asg (pe_op op_add (pe_ix ix_tup (pv 1) (pv 6) (fun _ _ => rfl)) (pe_ix ix_tup (pv 2) (pv 6) (fun _ _ => rfl))) (pg_sub (pv 5) (pv 6) set_list)))
      pss_nil)))
      (pss_cons (ps_set (i := 7) sc__law_right.nd rfl (Or.inl rfl) (pe_call G__law_least hr__law_least rfl m__law_least k__law_least b__law_least .nil pass0 (pa_cons (pv 0) (pa_cons (pv 5) pa_nil))))
      (pss_cons (ps_for PassesOwn.never rfl (pi_range1 (by rfl) T.b_range (pa_cons (pv 4) pa_nil)) (pg_name (i := 6) sc__law_right.nd rfl (Or.inl rfl))
      (pss_cons (ps_if (PW.pt (pw_or (pt_not (pt_val (pe_call G__law_is_integer hr__law_is_integer rfl m__law_is_integer k__law_is_integer b__law_is_integer .nil pass0 (pa_cons (pe_ix ix_tup (pe_ix ix_tup (pv 3) pe_int (fun _ _ => rfl)) (pv 6) (fun _ _ => rfl)) pa_nil)))) (pw_or1 (pt_cmpR op_lt (pe_ix ix_tup (pe_ix ix_tup (pv 3) pe_int (fun _ _ => rfl)) (pv 6) (fun _ _ => rfl)) pe_int (nomark _)))))
      (pss_one (ps_ret pe_bl))
      pss_nil)
      (pss_cons (ps_if (pt_cmpR op_ne (pe_op op_add (pe_ix ix_tup (pe_ix ix_tup (pv 3) pe_int (fun _ _ => rfl)) (pv 6) (fun _ _ => rfl)) (pe_ix ix_tup (pv 3) pe_int (fun _ _ => rfl))) (pe_ix ix_list (pv 7) (pv 6) (fun _ _ => rfl)) (nomark _))
      (pss_one (ps_ret pe_bl))
      pss_nil)
      (pss_one (ps_for PassesOwn.never rfl (pi_range1 (by rfl) T.b_range (pa_cons (pv 4) pa_nil)) (pg_name (i := 8) sc__law_right.nd rfl (Or.inl rfl))
      (pss_one (ps_if (pt_cmpR op_gt (pe_ix ix_tup (pe_ix ix_tup (pv 3) pe_int (fun _ _ => rfl)) (pv 6) (fun _ _ => rfl)) (pe_op op_add (pe_ix ix_tup (pe_ix ix_tup (pv 3) pe_int (fun _ _ => rfl)) (pv 8) (fun _ _ => rfl)) (pe_ix ix_tup (pe_ix ix_tup (pv 0) (pv 8) (fun _ _ => rfl)) (pv 6) (fun _ _ => rfl))) (nomark _))
      (pss_one (ps_ret pe_bl))
      pss_nil)))))))
      (pss_one (ps_ret (pe_cmpR op_eq (pe_callB (id := "min") (cr_minT rfl hu64) (by rfl) T.b_min (by decide +kernel) (pa_cons (pe_ix ix_tup (pv 3) pe_int (fun _ _ => rfl)) pa_nil)) pe_int (nomark _))))))))))), ?_⟩
    refine ⟨_, rfl, a, _, rfl, .inr (SqT.of ha), ?_⟩
    refine ⟨_, rfl, _, "tuple", _, rfl, ty_tup ht, kit7 (ty_tup ht) (T := "tuple") (by simp), _, rfl, ?_⟩
    refine ite2 (fun g => absurd g (by decide)) (fun _ => ?_)
    refine ⟨_, rfl, t, _, rfl, .inr (SqT.of ht), rfl, _, rfl, ?_⟩
    refine ite2 (fun g => absurd g (by simp)) (fun _ => ?_)
    refine ⟨_, rfl, t, _, 1, .int r, rfl, rfl, SqT.of ht, rfl, _, "int", rfl, rfl, _, rfl, ?_⟩
    refine ite2 (fun g => nomatch g) (fun _ => ?_)
    refine ⟨_, rfl, t, _, 0, .ref ta, rfl, rfl, SqT.of ht, rfl, _, "tuple", _, rfl, ty_tup hta, kit7 (ty_tup hta) (T := "tuple") (by simp), _, rfl, ?_⟩
    refine ite2 (fun g => absurd g (by decide)) (fun _ => ?_)
    refine ⟨_, rfl, t, _, 0, .ref ta, rfl, rfl, SqT.of ht, rfl, ta, _, rfl, .inr (SqT.of hta), _, rfl, rfl, _, rfl, ?_⟩
    have hnl : (newOff raw).length = n.toNat := O.len
    refine ite2 (fun g => ?_) (fun _ => ?_)
    · have : ((newOff raw).map V.int).length = vs.length := by rw [List.length_map]; omega
      rw [this] at g
      exact absurd g (by simp)
    refine ⟨_, rfl, _, rfl, by omega, by omega, fun D nD => ?_⟩
    refine lc_range (lo := 0) (n := (vs.length : Int).toNat) (fun j H4 => H4 D = some (.lst (List.replicate j .non)) ∧ Same H H4) ⟨upd_same, same_new nD⟩ ?_ ?_
    · rintro j H4 hj ⟨q1, q2⟩
      refine ⟨rfl, ?_⟩
      refine yesT ?_
      refine ⟨_, q1, ?_, ?_, same_upd q2 nD⟩
      · rw [List.length_replicate]; exact small1000 (by omega)
      · rw [upd_same, List.replicate_succ']
    rintro H1 ⟨q1, s1⟩
    have en : (vs.length : Int).toNat = n.toNat := by omega
    have q1' : H1 D = some (.lst (optL n.toNat fun b => if b < 0 then costF off row b else none)) := by
      rw [q1, en]
      congr 2
      apply List.ext_getElem?
      intro j
      by_cases hj : j < n.toNat
      · rw [optL_at hj, if_neg (Nat.not_lt_zero _), List.getElem?_replicate, if_pos hj]; rfl
      · rw [List.getElem?_eq_none (by rw [List.length_replicate]; omega), List.getElem?_eq_none (by rw [optL_len]; omega)]
    refine ⟨_, rfl, _, rfl, by omega, by omega, ?_⟩
    refine for_range (lo := 0) (n := (vs.length : Int).toNat) (fun i σ' H2 => ∃ (o6 : Option V), σ' = [some (.ref a), some (.ref oa), some (.ref pa), some (.ref t), some (.int vs.length), some (.ref D), o6, none, none] ∧ H2 D = some (.lst (optL n.toNat fun b => if b < i then costF off row b else none)) ∧ Keep D H1 H2)
      ⟨none, rfl, q1', Keep.refl _ _⟩ ?_ ?_
    · rintro i σ' H2 hi ⟨o6, rfl, e2, k2⟩
      have hi' : i < n.toNat := by omega
      have sD : ∀ {b : Addr} {o : HO}, H b = some o → H2 b = some o := fun h => k2 _ _ (ne_of_none h nD) (s1 _ _ h)
      have r1 : (row.map vO)[i]? = some (vO (row.getD i none)) := by rw [List.getElem?_map, getDat none (by omega)]; rfl
      simp only [Int.zero_add]
      refine ⟨_, rfl, _, rfl, pa, _, (i : Nat), _, rfl, rfl, SqT.of (sD hpa), atI_nat r1, rfl, _, rfl, ?_⟩
      cases hc : row.getD i none with
      | none =>
        refine ite2 (fun g => absurd g (by decide)) (fun _ => ?_)
        refine ⟨_, rfl, ?_, k2⟩
        rw [e2]
        congr 2
        unfold optL
        apply List.map_congr_left
        intro b _
        congr 1
        dsimp only
        by_cases e : b < i
        · rw [if_pos e, if_pos (by omega)]
        · rw [if_neg e]
          by_cases e' : b = i
          · subst e'; rw [if_pos (by omega), costF_none hc]
          · rw [if_neg (by omega)]
      | some kk =>
        refine ite2 (fun _ => ?_) (fun g => absurd rfl g)
        rw [hc] at r1
        have r2 : (off.map V.int)[i]? = some (.int (off.getD i 0)) := by rw [List.getElem?_map, getDat 0 (by omega)]; rfl
        refine ⟨_, rfl, _, rfl, oa, _, (i : Nat), _, rfl, rfl, SqT.of (sD ho), atI_nat r2, _, rfl, _, rfl, pa, _, (i : Nat), .int kk, rfl, rfl, SqT.of (sD hpa), atI_nat r1, _, _, rfl, rfl, ?_⟩
        refine ⟨_, rfl, _, rfl, D, _, (i : Nat), i, rfl, rfl, e2, ?_, ?_⟩
        · unfold ixN
          rw [optL_len, if_pos (by omega), if_pos (by omega)]
          rfl
        · refine ⟨_, rfl, ?_, k2.trans Keep.upd⟩
          rw [upd_same, optL_set]
          congr 2
          unfold optL
          apply List.map_congr_left
          intro b _
          congr 1
          unfold setL
          dsimp only
          by_cases e' : b = i
          · subst e'; rw [if_pos rfl, if_pos (by omega), costF_some hc]
          · rw [if_neg e']
            by_cases e : b < i
            · rw [if_pos e, if_pos (by omega)]
            · rw [if_neg e, if_neg (by omega)]
    rintro σ' H2 ⟨o6, rfl, e2, k2⟩
    have sD : ∀ {b : Addr} {o : HO}, H b = some o → H2 b = some o := fun h => k2 _ _ (ne_of_none h nD) (s1 _ _ h)
    have e2' : H2 D = some (.lst (optL n.toNat (costF off row))) := by
      rw [e2, en]
      congr 2
      unfold optL
      apply List.map_congr_left
      intro b hb
      dsimp only
      rw [if_pos (List.mem_range.mp hb)]
    have hmv2 : TupT IntT H2 (.ref a) rows := ⟨a, vs, rfl, sD ha, prd_imp hp fun x y r => IntT.firm H _ x y (fun e xs q => sD q) r⟩
    refine ⟨_, rfl, _, rfl, .ref a, rows, n, D, _, rfl, hmv2, S, h1, h6, e2', fun tl L H3 s3 hL hlsn => ?_⟩
    have hne := srv_ne (off := off) (row := row) (n := n.toNat) (by omega) hsome
    have hle : ∀ x y, x < n.toNat → y < n.toNat → mat ws x y ≤ mat rows x y := fun x y hx hy => by
      have := lst.le x y [y, x] hx hy ⟨rfl, rfl, by intro z hz; rcases List.mem_cons.mp hz with h | h; exact h ▸ hy; rw [List.mem_singleton.mp h]; exact hx⟩
      simpa [rc] using this
    have hLv : ∀ b, b < n.toNat → L b = some (raw.getD b 0) := fun b hb => by
      rw [hraw, rawL_at hb]
      exact Up.fin lst S.nn hne hlsn.up (hlsn.lo _ (fun x y hx hy => Int.le_trans (raw_tri met hne hx hy) (by have := hle x y hx hy; omega)) (Snb.start met)) hb
    have sD3 : ∀ {b : Addr} {o : HO}, H b = some o → H3 b = some o := fun h => s3 _ _ (sD h)
    have hnv : ∀ b, b < n.toNat → ((newOff raw).map V.int)[b]? = some (.int (raw.getD b 0 - minL raw)) := fun b hb => by
      rw [List.getElem?_map, getDat 0 (by omega), newOff_at (by omega)]; rfl
    refine ⟨_, rfl, _, rfl, by omega, by omega, ?_⟩
    refine for_range (lo := 0) (n := (vs.length : Int).toNat) (fun i σ' H4 => ∃ (o6 o8 : Option V), σ' = [some (.ref a), some (.ref oa), some (.ref pa), some (.ref t), some (.int vs.length), some (.ref D), o6, some (.ref tl), o8] ∧ H3 = H4)
      ⟨_, none, rfl, rfl⟩ ?_ ?_
    · rintro i σ' H4 hi ⟨o6, o8, rfl, rfl⟩
      have hi' : i < n.toNat := by omega
      simp only [Int.zero_add]
      refine ⟨_, rfl, t, _, 0, .ref ta, rfl, rfl, SqT.of (sD3 ht), rfl, _, rfl, ta, _, (i : Nat), _, rfl, rfl, SqT.of (sD3 hta), atI_nat (hnv i hi'), _, "int", rfl, rfl, _, rfl, ?_⟩
      refine ite2 (fun g => nomatch g) (fun _ => ?_)
      refine ⟨_, rfl, t, _, 0, .ref ta, rfl, rfl, SqT.of (sD3 ht), rfl, _, rfl, ta, _, (i : Nat), _, rfl, rfl, SqT.of (sD3 hta), atI_nat (hnv i hi'), _, _, rfl, rfl, _, rfl, ?_⟩
      have hmn : 0 ≤ raw.getD i 0 - minL raw := by
        have := O.nn i hi'
        rwa [newOff_at (by omega)] at this
      refine ite2 (fun g => absurd (of_decide_eq_true g) (by omega)) (fun _ => ?_)
      have hlt := optL_at (L := L) hi'
      rw [hLv i hi'] at hlt
      refine ⟨_, rfl, t, _, 0, .ref ta, rfl, rfl, SqT.of (sD3 ht), rfl, _, rfl, ta, _, (i : Nat), _, rfl, rfl, SqT.of (sD3 hta), atI_nat (hnv i hi'), _, rfl, t, _, 1, .int r, rfl, rfl, SqT.of (sD3 ht), rfl, _, _, rfl, rfl, ?_⟩
      refine ⟨_, rfl, _, rfl, tl, _, (i : Nat), _, rfl, rfl, SqL.of hL, atI_nat hlt, rfl, _, rfl, ?_⟩
      refine ite2 (fun g => ?_) (fun _ => ?_)
      · have : V.int (raw.getD i 0 - minL raw + r) = V.int (raw.getD i 0) := by congr 1; omega
        rw [show vO (some (raw.getD i 0)) = V.int (raw.getD i 0) from rfl, decide_eq_true this] at g
        cases g
      refine ⟨_, rfl, _, rfl, by omega, by omega, ?_⟩
      refine for_range (lo := 0) (n := (vs.length : Int).toNat) (fun x σ' H4 => ∃ (o8 : Option V), σ' = [some (.ref a), some (.ref oa), some (.ref pa), some (.ref t), some (.int vs.length), some (.ref D), some (.int (i : Nat)), some (.ref tl), o8] ∧ H3 = H4)
        ⟨o8, by simp, rfl⟩ ?_ ?_
      · rintro x σ' H4 hx ⟨o8, rfl, rfl⟩
        have hx' : x < n.toNat := by omega
        simp only [Int.zero_add]
        obtain ⟨wr, hwr⟩ : ∃ v, vs[x]? = some v := ⟨_, List.getElem?_eq_getElem (by omega)⟩
        obtain ⟨wrow, hwrow, ⟨wra, rfl, hwra⟩⟩ := prd_at1 hp hwr
        have hwl2 := (S.row wrow (List.mem_of_getElem? hwrow)).1
        have r2 : (wrow.map V.int)[i]? = some (.int (mat rows x i)) := by rw [List.getElem?_map, getDat 0 (by omega), mat_at hwrow]; rfl
        refine ⟨_, rfl, t, _, 0, .ref ta, rfl, rfl, SqT.of (sD3 ht), rfl, _, rfl, ta, _, (i : Nat), _, rfl, rfl, SqT.of (sD3 hta), atI_nat (hnv i hi'), ?_⟩
        refine ⟨_, rfl, t, _, 0, .ref ta, rfl, rfl, SqT.of (sD3 ht), rfl, _, rfl, ta, _, (x : Nat), _, rfl, rfl, SqT.of (sD3 hta), atI_nat (hnv x hx'), _, rfl, _, rfl, a, _, (x : Nat), _, rfl, rfl, SqT.of (sD3 ha), atI_nat hwr, _, rfl, wra, _, (i : Nat), _, rfl, rfl, SqT.of (sD3 hwra), atI_nat r2, _, _, rfl, rfl, ?_⟩
        refine ⟨_, _, rfl, rfl, _, rfl, ?_⟩
        refine ite2 (fun g => ?_) (fun _ => ?_)
        · have g := of_decide_eq_true g
          have h1 := O.tri x i hx' hi'
          rw [newOff_at (by omega), newOff_at (by omega)] at h1
          have h2 := hle x i hx' hi'
          omega
        · exact ⟨_, rfl, rfl⟩
      · rintro σ' H4 ⟨o8, rfl, rfl⟩
        exact ⟨_, _, rfl, rfl⟩
    · rintro σ' H4 ⟨o6, o8, rfl, rfl⟩
      obtain ⟨o0, os, he⟩ : ∃ o os, newOff raw = o :: os := by
        cases hno : newOff raw with
        | nil => rw [hno] at hnl; simp at hnl; omega
        | cons o os => exact ⟨o, os, rfl⟩
      refine ⟨_, rfl, t, _, 0, .ref ta, rfl, rfl, SqT.of (sD3 ht), rfl, ta, o0, os, rfl, SqT.of (by rw [← he]; exact sD3 hta), ?_⟩
      obtain ⟨f1, f2⟩ := foldl_min_le os o0
      have hz : os.foldl min o0 = 0 := by
        obtain ⟨c, hc, e⟩ := O.zero
        have hnn := O.nn
        rw [he] at e hnn hnl
        have hup : os.foldl min o0 ≤ 0 := by
          cases c with
          | zero => have : o0 = 0 := e; omega
          | succ c =>
            rw [List.getD_eq_getElem?_getD, List.getElem?_cons_succ] at e
            have hc2 : c < os.length := by simp at hnl; omega
            rw [List.getElem?_eq_getElem hc2] at e
            have := f2 _ (List.getElem_mem hc2)
            have e : os[c] = 0 := e
            omega
        have hlo : ∀ (os : List Int) (o : Int), 0 ≤ o → (∀ x ∈ os, 0 ≤ x) → 0 ≤ os.foldl min o := by
          intro os
          induction os with
          | nil => exact fun o h _ => h
          | cons x t ih => exact fun o h g => ih (min o x) (by have := g x List.mem_cons_self; omega) fun y hy => g y (List.mem_cons_of_mem _ hy)
        have := hlo os o0 (hnn 0 (by omega)) fun x hx => by
          obtain ⟨j, hj⟩ := List.getElem?_of_mem hx
          have hjl := (List.getElem?_eq_some_iff.mp hj).1
          have := hnn (j + 1) (by simp at hnl; omega)
          rw [List.getD_eq_getElem?_getD, List.getElem?_cons_succ, hj] at this
          exact this
        omega
      rw [hz]
      have hk := k _ fun b o h => sD3 h
      exact ⟨rfl, by rw [decide_eq_true (show V.int 0 = V.int 0 from rfl)]; exact hk⟩
end
end Toy

namespace Toy
open PySem PySem.Spec PyProof.Rows L2
local macro_rules | `(tactic| walk_at "hp") => `(tactic| first
  | assumption
  | exact upd_same
  | (refine Eq.trans (upd_ne (by first | assumption | (apply Ne.symm; assumption))) ?_; walk_at "hp"))
local macro_rules | `(tactic| walk_at "side") => `(tactic| first
  | exact .inl ⟨by omega, by omega⟩
  | exact .inr ⟨by omega, by omega⟩
  | exact ⟨by omega, by omega⟩
  | (show _ ≤ _; omega)
  | (show (_ : Int) < _; omega)
  | decide
  | assumption)
local macro_rules | `(tactic| walk_at "r") => `(tactic| first
  | refine ⟨_, rfl, ?_⟩
  | refine ⟨_, _, rfl, rfl, ?_⟩
  | refine ⟨_, _, _, _, rfl, rfl, SqL.of (by walk_at "hp"), rfl, ?_⟩
  | refine ⟨_, _, _, _, rfl, rfl, SqT.of (by walk_at "hp"), rfl, ?_⟩
  | refine ⟨_, _, _, _, rfl, rfl, (by walk_at "hp"), rfl, ?_⟩
  | refine And.intro rfl ?_
  | refine ⟨_, _, rfl, SqT.of (by walk_at "hp"), ?_⟩
  | refine ⟨_, _, rfl, SqL.of (by walk_at "hp"), ?_⟩
  | refine .inl ⟨_, rfl, ?_⟩
  | refine ⟨_, _, rfl, .inl (SqL.of (by walk_at "hp")), ?_⟩
  | refine ⟨_, _, rfl, .inr (SqT.of (by walk_at "hp")), ?_⟩
  | refine ⟨_, _, rfl, .inl ⟨SqL.of (by walk_at "hp"), ?_⟩⟩
  | refine And.intro (.inl ⟨rfl, _, SqL.of (by walk_at "hp")⟩) ?_
  | refine ⟨_, _, _, rfl, rfl, (by walk_at "hp"), ?_⟩
  | refine ⟨_, _, rfl, (by walk_at "hp"), ?_⟩
  | refine And.intro (by walk_at "side") ?_)
local macro_rules | `(tactic| walk_at "rr") => `(tactic| (repeat walk_at "r"))
local macro_rules | `(tactic| walk_at "k") => `(tactic| first
  | refine ite2 (fun _ => ?_) (fun g => absurd rfl g)
  | refine ite2 (fun g => absurd g (by decide)) (fun _ => ?_)
  | refine ite2 (fun _ => ?_) (fun g => absurd (decide_eq_true (by omega)) g)
  | refine ite2 (fun g => absurd (of_decide_eq_true g) (by omega)) (fun _ => ?_)
  | refine ite2 (fun g => (nd_t g (by omega)).elim) (fun _ => ?_)
  | refine ite2 (fun _ => ?_) (fun g => absurd (nd_f g) (by omega)))
local macro_rules | `(tactic| walk_at "rk") => `(tactic| (repeat (first | walk_at "r" | walk_at "k")))
theorem getD_some {xs : List Int} {i : Nat} {x : Int} (h : xs[i]? = some x) : xs.getD i 0 = x := by
  rw [List.getD_eq_getElem?_getD, h]
  rfl
/-- right offsets, as a thing -/
def OffIs (n : Int) (ws : List (List Int)) (H : Hp) (v : V) : Prop := ∃ off, IntT H v off ∧ OffOk n.toNat ws off
theorem OffIs.same {n : Int} {ws : List (List Int)} {H H' : Hp} {v : V} (h : OffIs n ws H v) (k : Same H H') : OffIs n ws H' v := by
  obtain ⟨off, h1, h2⟩ := h
  exact ⟨off, IntT.firm _ _ _ _ (same_tups k) h1, h2⟩
theorem map_int_inj : ∀ {xs ys : List Int}, xs.map V.int = ys.map V.int → xs = ys
  | [], [], _ => rfl
  | [], _ :: _, h => by cases h
  | _ :: _, [], h => by cases h
  | x :: t, y :: u, h => by
    have h : V.int x :: t.map V.int = V.int y :: u.map V.int := h
    injection h with h1 h2
    injection h1 with h1
    rw [h1, map_int_inj h2]
theorem offIs_tup {n : Int} {ws : List (List Int)} {H : Hp} {a : Addr} {xs : List V} (h : OffIs n ws H (.ref a)) (e : H a = some (.tup xs)) : ∃ off, xs = off.map V.int ∧ OffOk n.toNat ws off := by
  obtain ⟨off, ⟨a', e1, h1⟩, h2⟩ := h
  cases e1
  rw [e] at h1
  injection h1 with h1
  injection h1 with h1
  exact ⟨off, h1, h2⟩
theorem offIs_ints {n : Int} {ws : List (List Int)} {H : Hp} {a : Addr} {off : List Int} (e : H a = some (.tup (off.map V.int))) : OffIs n ws H (.ref a) ↔ OffOk n.toNat ws off := by
  constructor
  · intro h
    obtain ⟨off', h1, h2⟩ := offIs_tup h e
    rw [map_int_inj h1]; exact h2
  · exact fun h => ⟨off, ⟨a, rfl, e⟩, h⟩
/-- a thing whose items, if it is a tuple, are of the built-in kinds -/
structure Thg (K : PySem.W.Frag) (H : Hp) (v : V) : Prop where
  ty : ∃ n, TyG K H v n
  it : ∀ a xs, v = .ref a → H a = some (.tup xs) → ∀ x ∈ xs, ∃ n, tyN H x = some n
theorem Thg.same {K : PySem.W.Frag} {H H' : Hp} {v : V} (h : Thg K H v) (k : Same H H') : Thg K H' v := by
  obtain ⟨n, hn⟩ := h.ty
  refine ⟨⟨n, hn.same k⟩, fun a xs e h1 x hx => ?_⟩
  have h0 : H a = some (.tup xs) := by
    subst e
    cases hn with
    | blt hb =>
      cases q : H a with
      | none => unfold tyN at hb; simp only [q] at hb; cases hb
      | some o => rw [k _ _ q] at h1; cases h1; rfl
    | ins q _ _ => rw [k _ _ q] at h1; cases h1
    | err q _ => rw [k _ _ q] at h1; cases h1
  obtain ⟨m, hm⟩ := h.it a xs e h0 x hx
  exact ⟨m, tyN_keep k hm⟩
theorem nats_of : ∀ {xs : List V}, (∀ i, i < xs.length → isNat (xs.getD i .non) = true) → ∃ off : List Int, xs = off.map V.int ∧ ∀ b, b < off.length → 0 ≤ off.getD b 0
  | [], _ => ⟨[], rfl, fun b hb => absurd hb (Nat.not_lt_zero _)⟩
  | x :: t, h => by
    obtain ⟨off, e, ho⟩ := nats_of (xs := t) fun i hi => by
      have := h (i + 1) (by rw [List.length_cons]; omega)
      simpa using this
    have h0 : isNat x = true := h 0 (by simp)
    cases x with
    | int i =>
      refine ⟨i :: off, by rw [e]; rfl, fun b hb => ?_⟩
      cases b with
      | zero => exact of_decide_eq_true h0
      | succ b =>
        have := ho b (by rw [List.length_cons] at hb; omega)
        simpa using this
    | _ => cases h0
theorem fold_min_has : ∀ (os : List Int) (o : Int), os.foldl min o ∈ o :: os
  | [], o => List.mem_cons_self
  | x :: t, o => by
    have h := fold_min_has t (min o x)
    rw [List.foldl_cons]
    rcases List.mem_cons.mp h with h | h
    · rw [h]
      by_cases e : o ≤ x
      · rw [Int.min_eq_left e]; exact List.mem_cons_self
      · rw [Int.min_eq_right (by omega)]; exact List.mem_cons_of_mem _ List.mem_cons_self
    · exact List.mem_cons_of_mem _ (List.mem_cons_of_mem _ h)
def spIsOffG (K : PySem.W.Frag) (C : Addr) : Sp := fun vs H Q _ => ∃ (p : Addr) (S : Sys) (v : V), vs = [.ref p, v] ∧ SysOk S ∧ SysAt C H p S ∧ Thg K H v ∧ ∀ b H', Same H H' → (b = true ↔ OffIs S.n S.ws H v) → Q (.bl b) H'
def spFirst (C : Addr) : Sp := fun vs H Q _ => ∃ (p : Addr) (S : Sys), vs = [.ref p] ∧ SysOk S ∧ SysAt C H p S ∧ ∀ v off, IntT H v off → off.length = S.n.toNat → (∀ b, b < S.n.toNat → off.getD b 0 = mat S.ws 0 b) → Q v H
section
variable {P : Program} {w : World} {K : PySem.W.Frag} {mg : Str → Option Value} {base : Heap}
theorem ok_first_offsets (T : Top K mg) : Ok P w K mg base 1 "first_offsets" ["system"] (spFirst T.c_System) := by
  refine ok_of T.d_first_offsets sc_first_offsets (fun vs H Q E h => ?_) (fun f cdv A outer s H vs Q E hr h => ?_)
  · obtain ⟨p, S, rfl, _⟩ := h
    rfl
  · obtain ⟨p, S, rfl, ok, SA, k⟩ := h
    obtain ⟨dx, mv, na, wv, q, kvs, hp, h2, h3, h4, hq, hR⟩ := SA.ex
    obtain ⟨wa, wvs, rfl, hwa, hwp⟩ := h4
    have n1 := ok.n1
    have hwl := ok.wy.len
    have hwr := ok.wy.row
    have hl := prd_len hwp
    obtain ⟨r0, hr0⟩ : ∃ r, S.ws[0]? = some r := ⟨_, List.getElem?_eq_getElem (by omega)⟩
    obtain ⟨v0, hv0, hi0⟩ := prd_at2 hwp hr0
    have hrl := hwr r0 (List.mem_of_getElem? hr0)
    refine ⟨_, (pss_one (ps_ret (pe_ix ix_tup (pe_fld (pv 0) rfl) pe_int (fun _ _ => rfl)))), ?_⟩
    refine ⟨_, rfl, p, T.c_System, dx, _, _, rfl, hp, T.cl_System, T.na_System_ways, sfs_ways, wa, _, (0 : Nat), v0, rfl, rfl, SqT.of hwa, atI_nat hv0, ?_⟩
    exact k v0 r0 hi0 (by omega) fun b hb => (mat_at hr0 b).symm
theorem ok_is_offsets (T : Top K mg) : Ok P w K mg base 3 "is_offsets" ["system", "thing"] (spIsOffG K T.c_System) := by
  refine ok_of T.d_is_offsets sc_is_offsets (fun vs H Q E h => ?_) (fun f cdv A outer s H vs Q E hr h => ?_)
  · obtain ⟨p, S, v, rfl, _⟩ := h
    rfl
  · obtain ⟨p, S, v, rfl, ok, SA, hT, k⟩ := h
    obtain ⟨f_is_natural, fd_is_natural, m_is_natural, k_is_natural, b_is_natural, G_is_natural⟩ := ok_is_natural (P := P) (w := w) (base := base) T
    have hr_is_natural : Room 2 _ := hr.mono (by decide)
    obtain ⟨f_is_tuple_of, fd_is_tuple_of, m_is_tuple_of, k_is_tuple_of, b_is_tuple_of, G_is_tuple_of⟩ := ok_is_tuple_of (P := P) (w := w) (base := base) T
    have hr_is_tuple_of : Room 1 _ := hr.mono (by decide)
    obtain ⟨f_is_tuple_of, fd_is_tuple_of, m_is_tuple_of, k_is_tuple_of, b_is_tuple_of, G_is_tuple_of⟩ := okG_is_tuple_of (P := P) (w := w) (base := base) T
    have hu64 := hr.units
    obtain ⟨dx, mv, na, wv, q, kvs, hp, h2, h3, h4, hq, hR⟩ := SA.ex
    obtain ⟨wa, wvs, rfl, hwa, hwp⟩ := h4
    have n1 := ok.n1
    have n6 := ok.n6
    have hwl := ok.wy.len
    have hwr := ok.wy.row
    have hl := prd_len hwp
    obtain ⟨n, hn⟩ := hT.ty
    refine ⟨_, (pss_cons (ps_if (PW.pt (pw_or (pt_not (pt_val (pe_call G_is_tuple_of hr_is_tuple_of rfl m_is_tuple_of k_is_tuple_of b_is_tuple_of .nil pass0 (pa_cons (pv 1) (pa_cons (pe_fld (pv 0) rfl) pa_nil))))) (pw_or1 (pt_not (pt_val (pe_callB (id := "all") (cr_all rfl) (by rfl) T.b_all (by decide +kernel) (pa_cons (pe_lc (own := [("offset", 2)]) (g := gName 2) rfl sc_is_offsets.nd (pi_tup (pv 1)) (blkOk_by (own := [("offset", 2)]) (N := ["system", "thing", "offset", "ways", "other", "way"]) (sc := defScope s_is_offsets) (by decide +kernel)) (fun _ _ _ _ _ => (pg_name (i := 2) sc_is_offsets.nd rfl (Or.inl rfl))) (fun _ _ _ _ _ => pts_nil) (fun _ _ _ _ _ => (pe_call G_is_natural hr_is_natural rfl m_is_natural k_is_natural b_is_natural .nil pass0 (pa_cons (pv 2) pa_nil)))) pa_nil)))))))
      (pss_one (ps_ret pe_bl))
      pss_nil)
      (pss_cons (ps_if (pt_cmpR op_gt (pe_callB (id := "min") (cr_minT rfl hu64) (by rfl) T.b_min (by decide +kernel) (pa_cons (pv 1) pa_nil)) pe_int (nomark _))
      (pss_one (ps_ret pe_bl))
      pss_nil)
      (pss_cons (ps_for PassesOwn.never rfl (RZ.pi_zipA (by rfl) T.b_zip (pa_cons (pv 1) (pa_cons (pe_fld (pv 0) rfl) pa_nil))) (pg_tup rfl (pgs_cons (pg_name (i := 2) sc_is_offsets.nd rfl (Or.inr rfl)) (pgs_cons (pg_name (i := 3) sc_is_offsets.nd rfl (Or.inl rfl)) pgs_nil)))
      (pss_one (ps_if (pt_val (pe_callB (id := "any") (cr_any rfl) (by rfl) T.b_any (by decide +kernel) (pa_cons (pe_lc (own := [("other", 4), ("way", 5)]) rfl sc_is_offsets.nd (RZ.pi_zipA (by rfl) T.b_zip (pa_cons (pv 1) (pa_cons (pv 3) pa_nil))) (blkOk_by (own := [("other", 4), ("way", 5)]) (N := ["system", "thing", "offset", "ways", "other", "way"]) (sc := defScope s_is_offsets) (by decide +kernel)) (fun _ _ _ _ _ => ((pg_tup rfl (pgs_cons (pg_name (i := 4) sc_is_offsets.nd rfl (Or.inl rfl)) (pgs_cons (pg_name (i := 5) sc_is_offsets.nd rfl (Or.inl rfl)) pgs_nil))) : PG _ _ (gTup K 2 (gCons (gName 4) (gCons (gName 5) gNil))))) (fun _ _ _ _ _ => pts_nil) (fun _ _ _ _ _ => (pe_cmpR op_gt (pv 4) (pe_op op_add (pv 2) (pv 5)) (nomark _)))) pa_nil)))
      (pss_one (ps_ret pe_bl))
      pss_nil)))
      (pss_one (ps_ret pe_bl))))), ?_⟩
    refine ⟨_, rfl, _, rfl, p, T.c_System, dx, _, _, rfl, hp, T.cl_System, T.na_System_posts, sfs_posts, v, n, _, rfl, hn, _, rfl, ?_⟩
    cases hb : isTup H S.n v with
    | false =>
      refine ite2 (fun _ => ?_) (fun g => absurd rfl g)
      refine k false _ (Same.refl _) ⟨fun z => (nomatch z), ?_⟩
      rintro ⟨off, ⟨a, rfl, ha⟩, O⟩
      rw [tup_isTup ha (by rw [List.length_map, O.len]; omega)] at hb
      cases hb
    | true =>
      refine ite2 (fun g => nomatch g) (fun _ => ?_)
      obtain ⟨a, xs, rfl, ha, hlx⟩ := isTup_yes hb
      have hit := hT.it a xs rfl ha
      refine ⟨_, rfl, a, rfl, ⟨_, SqT.of ha⟩, fun D nD => ?_⟩
      refine lc_tup (K := K) (a := a) (xs := xs) (fun j H4 => ∃ bs, H4 D = some (.lst (bs.map V.bl)) ∧ Told (fun i => isNat (xs.getD i .non) = true) j bs ∧ Same H H4) ⟨[], upd_same, .nil, same_new nD⟩ (fun j H4 _ ⟨_, _, _, h4⟩ => SqT.of (h4 _ _ ha)) ?_ ?_
      · rintro j z H4 hj ⟨bs, q1, q2, q3⟩
        obtain ⟨m, hm⟩ := hit z (List.mem_of_getElem? hj)
        have hjl := (List.getElem?_eq_some_iff.mp hj).1
        refine ⟨rfl, ?_⟩
        refine yesT ?_
        refine ⟨_, rfl, z, m, rfl, tyN_keep q3 hm, ?_⟩
        refine ⟨_, q1, ?_, bs ++ [isNat z], ?_, q2.snoc (by rw [getD_at hj]), same_upd q3 nD⟩
        · rw [List.length_map, q2.len]; exact small1000 (by omega)
        · rw [upd_same, bl_snoc]
      · rintro H4 ⟨bs, q1, q2, q3⟩
        refine ⟨D, _, rfl, SqL.of q1, ?_⟩
        refine ⟨_, rfl, ?_⟩
        cases hbs : bs.all id with
        | false =>
          refine ite2 (fun _ => ?_) (fun g => absurd rfl g)
          refine k false _ q3 ⟨fun z => (nomatch z), fun h => ?_⟩
          obtain ⟨off, rfl, O⟩ := offIs_tup h ha
          have : bs.all id = true := q2.all.mpr fun i hi => by
            rw [List.length_map] at hi
            rw [List.getD_eq_getElem?_getD, List.getElem?_map, List.getElem?_eq_getElem hi]
            have := O.nn i (by rw [O.len] at hi; exact hi)
            rw [List.getD_eq_getElem?_getD, List.getElem?_eq_getElem hi] at this
            exact decide_eq_true this
          rw [hbs] at this; cases this
        | true =>
          refine ite2 (fun g => nomatch g) (fun _ => ?_)
          obtain ⟨off, rfl, hnn⟩ := nats_of fun i hi => q2.all.mp hbs i hi
          rw [List.length_map] at hlx
          have hol : off.length = S.n.toNat := by omega
          have hiff := offIs_ints (n := S.n) (ws := S.ws) ha
          have hb4 := q3 _ _ ha
          have hp4 := q3 _ _ hp
          have hwa4 := q3 _ _ hwa
          obtain ⟨o0, os, he⟩ : ∃ o os, off = o :: os := by
            cases off with
            | nil => simp at hol; omega
            | cons o os => exact ⟨o, os, rfl⟩
          refine ⟨_, rfl, a, o0, os, rfl, SqT.of (by rw [← he]; exact hb4), _, _, rfl, rfl, _, rfl, ?_⟩
          obtain ⟨f1, f2⟩ := foldl_min_le os o0
          refine ite2 (fun g => ?_) (fun g => ?_)
          · have g := of_decide_eq_true g
            refine k false _ q3 ⟨fun z => (nomatch z), fun h => ?_⟩
            have O := hiff.mp h
            obtain ⟨c, hc, e⟩ := O.zero
            rw [he] at e hol
            have : os.foldl min o0 ≤ (o0 :: os).getD c 0 := by
              cases c with
              | zero => exact f1
              | succ c =>
                rw [List.getD_eq_getElem?_getD, List.getElem?_cons_succ]
                have hc2 : c < os.length := by simp at hol; omega
                rw [List.getElem?_eq_getElem hc2]
                exact f2 _ (List.getElem_mem hc2)
            omega
          · have g : os.foldl min o0 ≤ 0 := le_not (fun z => g (decide_eq_true z))
            have hz : ∃ b, b < S.n.toNat ∧ off.getD b 0 = 0 := by
              obtain ⟨b, hb⟩ := List.getElem?_of_mem (fold_min_has os o0)
              rw [← he] at hb
              have hbl := (List.getElem?_eq_some_iff.mp hb).1
              have := hnn b hbl
              rw [getD_some hb] at this
              exact ⟨b, by omega, by rw [getD_some hb]; omega⟩
            refine ⟨_, rfl, _, rfl, p, T.c_System, dx, _, _, rfl, hp4, T.cl_System, T.na_System_ways, sfs_ways, a, wa, _, _, rfl, .inr ⟨SqT.of hb4, SqT.of hwa4, ?_⟩⟩
            refine for_it (walk_zipT (n := S.n.toNat) (by rw [List.length_map]; omega)) (fun i σ' H5 => Same H4 H5 ∧ (∀ x y, x < i → y < S.n.toNat → off.getD y 0 ≤ off.getD x 0 + mat S.ws x y) ∧ ∃ o2 o3 : Option V, σ' = [some (.ref p), some (.ref a), o2, o3, none, none]) ⟨Same.refl _, fun x y hx => absurd hx (Nat.not_lt_zero _), none, none, rfl⟩ (fun i σ' H5 _ h5 => ⟨SqT.of (h5.1 _ _ hb4), SqT.of (h5.1 _ _ hwa4)⟩) ?_ ?_
            · rintro i x σ' H5 H6 hi ⟨s5, tr, o2, o3, rfl⟩ ⟨tp, x', y', rfl, np, rfl, e3, ey⟩
              obtain ⟨u, hu1, rfl⟩ := map_at e3
              obtain ⟨row, hrow, ra, rfl, hra⟩ := prd_at1 hwp ey
              have hrl := hwr row (List.mem_of_getElem? hrow)
              have s6 : Same H5 (upd H5 tp (.tup [.int u, .ref ra])) := same_new np
              have s46 := s5.trans s6
              refine ⟨tp, _, rfl, SqT.of upd_same, rfl, _, _, rfl, _, _, rfl, rfl, ?_⟩
              refine ⟨_, rfl, _, rfl, a, ra, _, _, rfl, .inr ⟨SqT.of (s46 _ _ hb4), SqT.of (s46 _ _ (q3 _ _ hra)), fun D2 nD2 => ?_⟩⟩
              refine lc_it (walk_zipT (n := S.n.toNat) (by rw [List.length_map, List.length_map]; omega)) (fun j H8 => ∃ cs, H8 D2 = some (.lst (cs.map V.bl)) ∧ Told (fun y => off.getD i 0 + mat S.ws i y < off.getD y 0) j cs ∧ Same (upd H5 tp (.tup [.int u, .ref ra])) H8) ⟨[], upd_same, .nil, same_new nD2⟩ (fun j H8 _ ⟨_, _, _, h8⟩ => ⟨SqT.of (h8 _ _ (s46 _ _ hb4)), SqT.of (h8 _ _ (s46 _ _ (q3 _ _ hra)))⟩) ?_ ?_
              · rintro j x H8 H9 hj ⟨cs, f1, f2, f3⟩ ⟨tp2, x2, y2, rfl, np2, rfl, g3, g4⟩
                obtain ⟨u2, hu2, rfl⟩ := map_at g3
                obtain ⟨w2, hw2, rfl⟩ := map_at g4
                have s9 : Same H8 (upd H8 tp2 (.tup [.int u2, .int w2])) := same_new np2
                refine ⟨tp2, _, rfl, SqT.of upd_same, rfl, _, _, rfl, _, _, rfl, rfl, rfl, ?_⟩
                refine yesT ?_
                refine ⟨_, rfl, _, rfl, _, rfl, _, _, rfl, rfl, _, _, rfl, rfl, ?_⟩
                refine ⟨_, s9 _ _ f1, ?_, cs ++ [decide (u + w2 < u2)], ?_, f2.snoc ?_, same_upd (f3.trans s9) nD2⟩
                · rw [List.length_map, f2.len]; exact small1000 (by omega)
                · rw [upd_same, bl_snoc]
                · rw [decide_eq_true_iff, getD_some hu1, getD_some hu2, mat_at hrow, getD_some hw2]
              · rintro H8 ⟨cs, f1, f2, f3⟩
                refine ⟨D2, _, rfl, SqL.of f1, ?_⟩
                refine ⟨_, rfl, ?_⟩
                have s48 := q3.trans (s46.trans f3)
                refine ite2 (fun g => ?_) (fun g => ?_)
                · refine k false _ s48 ⟨fun z => (nomatch z), fun h => ?_⟩
                  obtain ⟨y, hy, hlt⟩ := f2.any.mp g
                  have := (hiff.mp h).tri i y hi hy
                  omega
                · refine ⟨s46.trans f3, fun x y hx hy => ?_, _, _, rfl⟩
                  by_cases e : x < i
                  · exact tr x y e hy
                  · obtain rfl : x = i := by omega
                    exact le_not fun z => g (f2.any.mpr ⟨y, hy, z⟩)
            · rintro σ' H5 ⟨s5, tr, o2, o3, rfl⟩
              exact k true _ (q3.trans s5) ⟨fun _ => hiff.mpr ⟨hol, fun b hb => hnn b (by omega), hz, tr⟩, fun _ => rfl⟩
end
end Toy

namespace Toy
open PySem PySem.Spec PyProof.Rows L2
local macro_rules | `(tactic| walk_at "hp") => `(tactic| first
  | assumption
  | exact upd_same
  | (refine Eq.trans (upd_ne (by first | assumption | (apply Ne.symm; assumption))) ?_; walk_at "hp"))
local macro_rules | `(tactic| walk_at "side") => `(tactic| first
  | exact .inl ⟨by omega, by omega⟩
  | exact .inr ⟨by omega, by omega⟩
  | exact ⟨by omega, by omega⟩
  | (show _ ≤ _; omega)
  | (show (_ : Int) < _; omega)
  | decide
  | assumption)
local macro_rules | `(tactic| walk_at "r") => `(tactic| first
  | refine ⟨_, rfl, ?_⟩
  | refine ⟨_, _, rfl, rfl, ?_⟩
  | refine ⟨_, _, _, _, rfl, rfl, SqL.of (by walk_at "hp"), rfl, ?_⟩
  | refine ⟨_, _, _, _, rfl, rfl, SqT.of (by walk_at "hp"), rfl, ?_⟩
  | refine ⟨_, _, _, _, rfl, rfl, (by walk_at "hp"), rfl, ?_⟩
  | refine And.intro rfl ?_
  | refine ⟨_, _, rfl, SqT.of (by walk_at "hp"), ?_⟩
  | refine ⟨_, _, rfl, SqL.of (by walk_at "hp"), ?_⟩
  | refine .inl ⟨_, rfl, ?_⟩
  | refine ⟨_, _, rfl, .inl (SqL.of (by walk_at "hp")), ?_⟩
  | refine ⟨_, _, rfl, .inr (SqT.of (by walk_at "hp")), ?_⟩
  | refine ⟨_, _, rfl, .inl ⟨SqL.of (by walk_at "hp"), ?_⟩⟩
  | refine And.intro (.inl ⟨rfl, _, SqL.of (by walk_at "hp")⟩) ?_
  | refine ⟨_, _, _, rfl, rfl, (by walk_at "hp"), ?_⟩
  | refine ⟨_, _, rfl, (by walk_at "hp"), ?_⟩
  | refine And.intro (by walk_at "side") ?_)
local macro_rules | `(tactic| walk_at "rr") => `(tactic| (repeat walk_at "r"))
local macro_rules | `(tactic| walk_at "k") => `(tactic| first
  | refine ite2 (fun _ => ?_) (fun g => absurd rfl g)
  | refine ite2 (fun g => absurd g (by decide)) (fun _ => ?_)
  | refine ite2 (fun _ => ?_) (fun g => absurd (decide_eq_true (by omega)) g)
  | refine ite2 (fun g => absurd (of_decide_eq_true g) (by omega)) (fun _ => ?_)
  | refine ite2 (fun g => (nd_t g (by omega)).elim) (fun _ => ?_)
  | refine ite2 (fun _ => ?_) (fun g => absurd (nd_f g) (by omega)))
local macro_rules | `(tactic| walk_at "rk") => `(tactic| (repeat (first | walk_at "r" | walk_at "k")))
theorem ne_len {k : Nat} {n : Int} (g : (!decide (V.int k = V.int n)) = true) : (k : Int) ≠ n := by
  intro e
  rw [decide_eq_true (show V.int k = V.int n by rw [e])] at g
  cases g
theorem eq_len {k : Nat} {n : Int} (g : ¬ (!decide (V.int k = V.int n)) = true) : (k : Int) = n := by
  by_cases e : V.int k = V.int n
  · injection e
  · rw [decide_eq_false e] at g; exact absurd rfl g
theorem inV_int (k : Int) : ∀ off : List Int, inV (V.int k) (off.map V.int) = decide (k ∈ off)
  | [] => rfl
  | x :: t => by
    have ih := inV_int k t
    have hs : inV (V.int k) ((x :: t).map V.int) = (eqV (V.int x) (V.int k) || inV (V.int k) (t.map V.int)) := by
      first | rfl | simp [inV]
    rw [hs, ih]
    by_cases e : x = k
    · subst e; simp [eqV]
    · have e' : ¬ k = x := fun z => e z.symm
      simp [eqV, e, e']
def spAreOff (K : PySem.W.Frag) : Sp := fun vs H Q _ => ∃ (L : Addr) (M : Nat → Nat → Int) (n : Int) (ws : List (List Int)) (v : V), vs = [.ref L, v] ∧ LM H L n.toNat M ∧ (∀ i j, i < n.toNat → j < n.toNat → M i j = mat ws i j) ∧ 1 ≤ n ∧ n ≤ 6 ∧ Thg K H v ∧
  ∀ b H', Same H H' → (b = true ↔ OffIs n ws H v) → Q (.bl b) H'
section
variable {P : Program} {w : World} {K : PySem.W.Frag} {mg : Str → Option Value} {base : Heap}
theorem ok__law_are_offsets (T : Top K mg) : Ok P w K mg base 2 "_law_are_offsets" ["ways", "thing"] (spAreOff K) := by
  refine ok_of T.d__law_are_offsets sc__law_are_offsets (fun vs H Q E h => ?_) (fun f cdv A outer s H vs Q E hr h => ?_)
  · obtain ⟨L, M, n, ws, v, rfl, _⟩ := h
    rfl
  · obtain ⟨L, M, n, ws, v, rfl, hM, hMw, h1, h6, hT, k⟩ := h
    obtain ⟨f__law_is_integer, fd__law_is_integer, m__law_is_integer, k__law_is_integer, b__law_is_integer, G__law_is_integer⟩ := ok__law_is_integer (P := P) (w := w) (base := base) T
    have hr__law_is_integer : Room 1 _ := hr.mono (by decide)
    obtain ⟨was, w1, w2, w3⟩ := hM.ex
    have hwl : (((was.map V.ref).length : Nat) : Int) = n := by rw [List.length_map]; omega
    have hwn : ((was.map V.ref).length : Int).toNat = n.toNat := by omega
    obtain ⟨m, hm⟩ := hT.ty
    have fls : ∀ {b : Bool}, ¬ OffIs n ws H v → (false = true ↔ OffIs n ws H v) := fun h => ⟨fun z => (nomatch z), fun z => absurd z h⟩
    refine ⟨_, (pss_cons (ps_set (i := 2) sc__law_are_offsets.nd rfl (Or.inl rfl) (pe_callB (id := "len") call_len_seq (by rfl) T.b_len (by decide +kernel) (pa_cons (pv 0) pa_nil)))
      (pss_cons (ps_if (PW.pt (pw_or (pt_not (pt_val (pe_callB (id := "isinstance") (call_isG (T := "tuple") (by simp [six])) (by rfl) T.b_isinstance (by decide +kernel) (pa_cons (pv 1) (pa_cons (pe_bltn (v := .ty "tuple") (u := .type "tuple") (by rfl) T.b_tuple (by decide +kernel) rfl) pa_nil))))) (pw_or1 (pt_cmpR op_ne (pe_callB (id := "len") call_len_seq (by rfl) T.b_len (by decide +kernel) (pa_cons (pv 1) pa_nil)) (pv 2) (nomark _)))))
      (pss_one (ps_ret pe_bl))
      pss_nil)
      (pss_cons (ps_for PassesOwn.never rfl (pi_tup (pv 1)) (pg_name (i := 3) sc__law_are_offsets.nd rfl (Or.inl rfl))
      (pss_one (ps_if (PW.pt (pw_or (pt_not (pt_val (pe_call G__law_is_integer hr__law_is_integer rfl m__law_is_integer k__law_is_integer b__law_is_integer .nil pass0 (pa_cons (pv 3) pa_nil)))) (pw_or1 (pt_cmpR op_lt (pv 3) pe_int (nomark _)))))
      (pss_one (ps_ret pe_bl))
      pss_nil)))
      (pss_cons (ps_for PassesOwn.never rfl (pi_range1 (by rfl) T.b_range (pa_cons (pv 2) pa_nil)) (pg_name (i := 4) sc__law_are_offsets.nd rfl (Or.inl rfl))
      (pss_one (ps_for PassesOwn.never rfl (pi_range1 (by rfl) T.b_range (pa_cons (pv 2) pa_nil)) (pg_name (i := 5) sc__law_are_offsets.nd rfl (Or.inl rfl))
      (pss_one (ps_if (pt_cmpR op_gt (pe_ix ix_tup (pv 1) (pv 5) (fun _ _ => rfl)) (pe_op op_add (pe_ix ix_tup (pv 1) (pv 4) (fun _ _ => rfl)) (pe_ix ix_list (pe_ix ix_list (pv 0) (pv 4) (fun _ _ => rfl)) (pv 5) (fun _ _ => rfl))) (nomark _))
      (pss_one (ps_ret pe_bl))
      pss_nil)))))
      (pss_one (ps_ret (pe_cmpR op_in_seq pe_int (pv 1) rfl))))))), ?_⟩
    refine ⟨_, rfl, L, _, rfl, .inl (SqL.of w1), ?_⟩
    refine ⟨_, rfl, _, m, rfl, hm, _, rfl, ?_⟩
    rw [isOf_tup]
    refine ite2 (fun g => ?_) (fun g => ?_)
    · refine k false _ (Same.refl _) (fls (b := true) ?_)
      rintro ⟨off, ⟨a, rfl, ha⟩, O⟩
      have : m = "tuple" := by
        cases hm with
        | blt h => rw [ty_tup ha] at h; cases h; rfl
        | ins q _ _ => rw [ha] at q; cases q
        | err q _ => rw [ha] at q; cases q
      subst this
      cases g
    have hmt : m = "tuple" := by
      by_cases e : m = "tuple"
      · exact e
      · rw [show (m == "tuple") = false by simp [e]] at g; exact absurd rfl g
    subst hmt
    obtain ⟨a, xs, rfl, ha⟩ := tyG_tup hm
    have hit := hT.it a xs rfl ha
    refine ⟨_, rfl, a, _, rfl, .inr (SqT.of ha), _, rfl, rfl, _, rfl, ?_⟩
    refine ite2 (fun g => ?_) (fun g => ?_)
    · refine k false _ (Same.refl _) (fls (b := true) fun h => ?_)
      obtain ⟨off, rfl, O⟩ := offIs_tup h ha
      exact ne_len g (by rw [hwl, List.length_map, O.len]; omega)
    have hlx : (xs.length : Int) = n := by rw [eq_len g, hwl]
    refine ⟨_, rfl, a, rfl, ⟨_, SqT.of ha⟩, ?_⟩
    refine for_tup (K := K) (a := a) (xs := xs) (fun j σ' H3 => H3 = H ∧ (∀ i, i < j → isNat (xs.getD i .non) = true) ∧ ∃ o3 : Option V, σ' = [some (.ref L), some (.ref a), some (.int ((was.map V.ref).length : Nat)), o3, none, none]) ⟨rfl, fun x hx => absurd hx (Nat.not_lt_zero _), none, rfl⟩ (fun j σ' H3 _ h3 => SqT.of (by rw [h3.1]; exact ha)) ?_ ?_
    · rintro j y σ' H3 hj ⟨rfl, q3, o3, rfl⟩
      obtain ⟨ny, hny⟩ := hit y (List.mem_of_getElem? hj)
      have hjl := (List.getElem?_eq_some_iff.mp hj).1
      have bad : isNat y = false → ¬ OffIs n ws H3 (.ref a) := fun e h => by
        obtain ⟨off, rfl, O⟩ := offIs_tup h ha
        obtain ⟨u, hu, rfl⟩ := map_at hj
        have := O.nn j (by rw [List.length_map] at hjl; rw [O.len] at hjl; exact hjl)
        rw [getD_some hu] at this
        rw [show isNat (V.int u) = true from decide_eq_true this] at e
        cases e
      refine ⟨_, rfl, y, ny, rfl, hny, _, rfl, ?_⟩
      refine ite2 (fun g => ?_) (fun g => ?_)
      · refine k false _ (Same.refl _) (fls (b := true) (bad ?_))
        cases y with
        | int i => cases g
        | _ => rfl
      obtain ⟨i, rfl⟩ : ∃ i, y = .int i := by
        cases y with
        | int i => exact ⟨i, rfl⟩
        | _ => exact absurd rfl g
      refine ⟨_, rfl, _, _, rfl, rfl, _, rfl, ?_⟩
      refine ite2 (fun g => ?_) (fun g => ?_)
      · have g := of_decide_eq_true g
        exact k false _ (Same.refl _) (fls (b := true) (bad (decide_eq_false (by omega))))
      · refine ⟨rfl, fun x hx => ?_, _, rfl⟩
        by_cases e : x < j
        · exact q3 x e
        · obtain rfl : x = j := by omega
          rw [getD_at hj]
          exact decide_eq_true (le_not fun z => g (decide_eq_true z))
    · rintro σ' H3 ⟨rfl, q3, o3, rfl⟩
      obtain ⟨off, rfl, hnn⟩ := nats_of q3
      rw [List.length_map] at hlx
      have hol : off.length = n.toNat := by omega
      have hiff := offIs_ints (n := n) (ws := ws) ha
      refine ⟨_, rfl, _, rfl, by omega, by omega, ?_⟩
      refine for_range (lo := 0) (n := ((was.map V.ref).length : Int).toNat) (fun i σ' H4 => H3 = H4 ∧ (∀ x y, x < i → y < n.toNat → off.getD y 0 ≤ off.getD x 0 + mat ws x y) ∧ ∃ o4 o5 : Option V, σ' = [some (.ref L), some (.ref a), some (.int ((was.map V.ref).length : Nat)), o3, o4, o5]) ⟨rfl, fun x y hx => absurd hx (Nat.not_lt_zero _), none, none, rfl⟩ ?_ ?_
      · rintro i σ' H4 hi ⟨rfl, tr, o4, o5, rfl⟩
        have hi' : i < n.toNat := by omega
        refine ⟨_, rfl, _, rfl, by omega, by omega, ?_⟩
        refine for_range (lo := 0) (n := ((was.map V.ref).length : Int).toNat) (fun j σ' H4 => H3 = H4 ∧ (∀ y, y < j → off.getD y 0 ≤ off.getD i 0 + mat ws i y) ∧ ∃ o5 : Option V, σ' = [some (.ref L), some (.ref a), some (.int ((was.map V.ref).length : Nat)), o3, some (.int (i : Nat)), o5]) ⟨rfl, fun y hy => absurd hy (Nat.not_lt_zero _), o5, by simp⟩ ?_ ?_
        · rintro j σ' H4 hj ⟨rfl, tj, o5, rfl⟩
          have hj' : j < n.toNat := by omega
          obtain ⟨wa, hwa⟩ : ∃ b, was[i]? = some b := ⟨_, List.getElem?_eq_getElem (by omega)⟩
          have hmb : (rowV n.toNat (M i))[j]? = some (.int (mat ws i j)) := by rw [rowV_at hj', hMw i j hi' hj']
          have r1 : (off.map V.int)[j]? = some (.int (off.getD j 0)) := by rw [List.getElem?_map, getDat 0 (by omega)]; rfl
          have r2 : (off.map V.int)[i]? = some (.int (off.getD i 0)) := by rw [List.getElem?_map, getDat 0 (by omega)]; rfl
          simp only [Int.zero_add]
          refine ⟨_, rfl, _, rfl, a, _, (j : Nat), _, rfl, rfl, SqT.of ha, atI_nat r1, _, rfl, _, rfl, a, _, (i : Nat), _, rfl, rfl, SqT.of ha, atI_nat r2, _, rfl, _, rfl, L, _, (i : Nat), .ref wa, rfl, rfl, SqL.of w1, atI_nat (by rw [List.getElem?_map, hwa]; rfl), _, rfl, wa, _, (j : Nat), _, rfl, rfl, SqL.of (w3 i wa hwa), atI_nat hmb, _, _, rfl, rfl, ?_⟩
          refine ⟨_, _, rfl, rfl, _, rfl, ?_⟩
          refine ite2 (fun g => ?_) (fun g => ?_)
          · have g := of_decide_eq_true g
            refine k false _ (Same.refl _) (fls (b := true) fun h => ?_)
            have := (hiff.mp h).tri i j hi' hj'
            omega
          · refine ⟨rfl, fun y hy => ?_, _, rfl⟩
            by_cases e : y < j
            · exact tj y e
            · obtain rfl : y = j := by omega
              exact le_not fun z => g (decide_eq_true z)
        · rintro σ' H4 ⟨rfl, tj, o5, rfl⟩
          rw [hwn] at tj
          refine ⟨rfl, fun x y hx hy => ?_, _, _, rfl⟩
          by_cases e : x < i
          · exact tr x y e hy
          · obtain rfl : x = i := by omega
            exact tj y hy
      · rintro σ' H4 ⟨rfl, tr, o4, o5, rfl⟩
        rw [hwn] at tr
        refine ⟨_, rfl, a, _, rfl, .inr (SqT.of ha), rfl, ?_, ?_⟩
        · rw [List.all_eq_true]; intro x hx; obtain ⟨z, _, rfl⟩ := List.mem_map.mp hx; rfl
        refine k _ _ (Same.refl _) ?_
        rw [hiff]
        show inV (V.int 0) (off.map V.int) = true ↔ _
        rw [inV_int, decide_eq_true_iff]
        constructor
        · intro hm
          obtain ⟨b, hb⟩ := List.getElem?_of_mem hm
          have hbl := (List.getElem?_eq_some_iff.mp hb).1
          exact ⟨hol, fun b hb => hnn b (by omega), ⟨b, by omega, getD_some hb⟩, tr⟩
        · intro O
          obtain ⟨b, hb, e⟩ := O.zero
          have hbl : b < off.length := by omega
          rw [List.getD_eq_getElem?_getD, List.getElem?_eq_getElem hbl] at e
          have e : off[b] = 0 := e
          rw [← e]; exact List.getElem_mem hbl
end
end Toy

namespace Toy
open PySem PySem.Spec PyProof.Rows L2
local macro_rules | `(tactic| walk_at "hp") => `(tactic| first
  | assumption
  | exact upd_same
  | (refine Eq.trans (upd_ne (by first | assumption | (apply Ne.symm; assumption))) ?_; walk_at "hp"))
local macro_rules | `(tactic| walk_at "side") => `(tactic| first
  | exact .inl ⟨by omega, by omega⟩
  | exact .inr ⟨by omega, by omega⟩
  | exact ⟨by omega, by omega⟩
  | (show _ ≤ _; omega)
  | (show (_ : Int) < _; omega)
  | decide
  | assumption)
local macro_rules | `(tactic| walk_at "r") => `(tactic| first
  | refine ⟨_, rfl, ?_⟩
  | refine ⟨_, _, rfl, rfl, ?_⟩
  | refine ⟨_, _, _, _, rfl, rfl, SqL.of (by walk_at "hp"), rfl, ?_⟩
  | refine ⟨_, _, _, _, rfl, rfl, SqT.of (by walk_at "hp"), rfl, ?_⟩
  | refine ⟨_, _, _, _, rfl, rfl, (by walk_at "hp"), rfl, ?_⟩
  | refine And.intro rfl ?_
  | refine ⟨_, _, rfl, SqT.of (by walk_at "hp"), ?_⟩
  | refine ⟨_, _, rfl, SqL.of (by walk_at "hp"), ?_⟩
  | refine .inl ⟨_, rfl, ?_⟩
  | refine ⟨_, _, rfl, .inl (SqL.of (by walk_at "hp")), ?_⟩
  | refine ⟨_, _, rfl, .inr (SqT.of (by walk_at "hp")), ?_⟩
  | refine ⟨_, _, rfl, .inl ⟨SqL.of (by walk_at "hp"), ?_⟩⟩
  | refine And.intro (.inl ⟨rfl, _, SqL.of (by walk_at "hp")⟩) ?_
  | refine ⟨_, _, _, rfl, rfl, (by walk_at "hp"), ?_⟩
  | refine ⟨_, _, rfl, (by walk_at "hp"), ?_⟩
  | refine And.intro (by walk_at "side") ?_)
local macro_rules | `(tactic| walk_at "rr") => `(tactic| (repeat walk_at "r"))
local macro_rules | `(tactic| walk_at "k") => `(tactic| first
  | refine ite2 (fun _ => ?_) (fun g => absurd rfl g)
  | refine ite2 (fun g => absurd g (by decide)) (fun _ => ?_)
  | refine ite2 (fun _ => ?_) (fun g => absurd (decide_eq_true (by omega)) g)
  | refine ite2 (fun g => absurd (of_decide_eq_true g) (by omega)) (fun _ => ?_)
  | refine ite2 (fun g => (nd_t g (by omega)).elim) (fun _ => ?_)
  | refine ite2 (fun _ => ?_) (fun g => absurd (nd_f g) (by omega)))
local macro_rules | `(tactic| walk_at "rk") => `(tactic| (repeat (first | walk_at "r" | walk_at "k")))
/-- a name that a dict of texts has -/
def isKn (kvs : List (Key × V)) : V → Bool
  | .str z => (valV kvs (.inr z : Key)).isSome
  | _ => false
theorem tyG_str {K : PySem.W.Frag} {H : Hp} {v : V} (h : TyG K H v "str") : ∃ z, v = .str z := tyN_str (tyG_blt h (by decide))
def spIsKnG (K : PySem.W.Frag) : Sp := fun vs H Q _ => ∃ (v : V) (n : String) (q : Addr) (kvs : List (Key × V)), vs = [v, .ref q] ∧ TyG K H v n ∧ H q = some (.dK kvs) ∧ Q (.bl (isKn kvs v)) H
/-- an error of the class C that keeps v as f leaves -/
def Lets (E : XK) (C : Addr) (f : Str) (v : V) (H : Hp) : Prop := ∀ d H', Same H H' → H d = none → H' d = some (.xd [(f, v)]) → E (.ref C) (some d) H'
theorem Lets.same {E : XK} {C : Addr} {f : Str} {v : V} {H H' : Hp} (h : Lets E C f v H) (k : Same H H') : Lets E C f v H' := fun d H2 k2 n e => h d H2 (k.trans k2) (by
  cases q : H d with
  | none => rfl
  | some o => rw [k _ _ q] at n; cases n) e
def Lets0 (E : XK) (C : Addr) (H : Hp) : Prop := ∀ H', Same H H' → E (.ref C) none H'
def spPricesG (K : PySem.W.Frag) (C cN : Addr) : Sp := fun vs H Q E => ∃ (p : Addr) (S : Sys) (v : V) (n : String), vs = [.ref p, v] ∧ SysOk S ∧ SysAt C H p S ∧ TyG K H v n ∧
  (∀ z row, v = .str z → (z, row) ∈ S.rs → ∀ pv, OptT H pv row → Q pv H) ∧ ((∀ z, v = .str z → ¬ z ∈ S.rs.map (·.1)) → Lets E cN "name" v H)
def AfterIs (S : Sys) (off : List Int) (row : List (Option Int)) (t : Addr) (H : Hp) : Prop := ∃ tv, H t = some (.tup [tv, .int (minL (rawL S.n.toNat S.ws (srv S.n.toNat off row)))]) ∧ IntT H tv (newOff (rawL S.n.toNat S.ws (srv S.n.toNat off row)))
def spRisenG (K : PySem.W.Frag) (C cN : Addr) : Sp := fun vs H Q E => ∃ (p : Addr) (S : Sys) (v : V) (off : List Int) (nv : V) (n : String), vs = [.ref p, v, nv] ∧ SysOk S ∧ SysAt C H p S ∧ IntT H v off ∧ off.length = S.n.toNat ∧ TyG K H nv n ∧
  (∀ z row, nv = .str z → (z, row) ∈ S.rs → ∀ t H', Same H H' → AfterIs S off row t H' → Q (.ref t) H') ∧ ((∀ z, nv = .str z → ¬ z ∈ S.rs.map (·.1)) → Lets E cN "name" nv H)
def spAfterG (K : PySem.W.Frag) (C cN cB : Addr) : Sp := fun vs H Q E => ∃ (p : Addr) (S : Sys) (v nv : V) (n : String), vs = [.ref p, v, nv] ∧ SysOk S ∧ SysAt C H p S ∧ Thg K H v ∧ TyG K H nv n ∧
  (∀ off z row, IntT H v off → OffOk S.n.toNat S.ws off → nv = .str z → (z, row) ∈ S.rs → ∀ t H', Same H H' → AfterIs S off row t H' → Q (.ref t) H') ∧ (¬ OffIs S.n S.ws H v → Lets0 E cB H) ∧ (OffIs S.n S.ws H v → (∀ z, nv = .str z → ¬ z ∈ S.rs.map (·.1)) → Lets E cN "name" nv H)
def SvT (ws : List (List Int)) (H : Hp) (v : V) (q : Int × Nat) : Prop := ∃ (t ra : Addr) (r : List Int), v = .ref t ∧ H t = some (.tup [.int q.1, .ref ra]) ∧ H ra = some (.tup (r.map V.int)) ∧ ws[q.2]? = some r
theorem SvT.firm {ws : List (List Int)} {H H' : Hp} {v : V} {q : Int × Nat} (k : ∀ e xs, H e = some (.tup xs) → H' e = some (.tup xs)) (h : SvT ws H v q) : SvT ws H' v q := by
  obtain ⟨t, ra, r, e, h1, h2, h3⟩ := h
  exact ⟨t, ra, r, e, k _ _ h1, k _ _ h2, h3⟩
theorem srv_none {i : Nat} {off : List Int} {row : List (Option Int)} (h : row.getD i none = none) : srv (i + 1) off row = srv i off row := by
  unfold srv
  rw [List.range_succ, List.filterMap_append, List.filterMap_cons, svF_none h]
  simp
theorem srv_some {i : Nat} {off : List Int} {row : List (Option Int)} {c : Int} (h : row.getD i none = some c) : srv (i + 1) off row = srv i off row ++ [(off.getD i 0 + c, i)] := by
  unfold srv
  rw [List.range_succ, List.filterMap_append, List.filterMap_cons, svF_some h]
  rfl
theorem srv_len (i : Nat) (off : List Int) (row : List (Option Int)) : (srv i off row).length ≤ i := by
  unfold srv
  exact Nat.le_trans (List.length_filterMap_le _ _) (Nat.le_of_eq List.length_range)
section
variable {P : Program} {w : World} {K : PySem.W.Frag} {mg : Str → Option Value} {base : Heap}
theorem ok_NoRequestZ_initZ (T : Top K mg) : ∃ (fI : Addr) (fd : FuncData), PySem.W.findIn K (.ref T.c_NoRequest) "__init__" = some (some (.ref fI)) ∧ PySem.W.typeIn K (.ref fI) = some (.type "function") ∧ Binds K fd ["self", "name"] [] ∧ FnOk P w K mg base CX0 1 fI fd ["self", "name"] (spInitF K "name") := by
  obtain ⟨fI, fd, q, i, t, F, b⟩ := T.x_NoRequest.h
  refine ⟨fI, fd, i, t, b, F.ok sc_NoRequestZ_initZ (fun vs H Q E h => ?_) (fun cdv A outer s H vs Q E hr h => ?_)⟩
  · obtain ⟨a, C, v, rfl, _⟩ := h
    rfl
  · obtain ⟨a, C, v, rfl, hT, hno, ha, k⟩ := h
    refine ⟨_, pss_one (ps_ost (pv 0) (pv 1)), ?_⟩
    exact ⟨_, rfl, _, rfl, a, C, rfl, hT, hno, .inl ⟨ha, k⟩⟩
theorem ok_is_known (T : Top K mg) : Ok P w K mg base 1 "is_known" ["thing", "names"] (spIsKnG K) := by
  refine ok_of T.d_is_known sc_is_known (fun vs H Q E h => ?_) (fun f cdv A outer s H vs Q E hr h => ?_)
  · obtain ⟨v, n, q, kvs, rfl, _⟩ := h
    rfl
  · obtain ⟨v, n, q, kvs, rfl, hn, hq, k⟩ := h
    have hu := hu_of hr
    refine ⟨_, (pss_one (ps_ret (pe_and (pe_callB (id := "isinstance") (call_isG (T := "str") (by simp [six])) (by rfl) T.b_isinstance (by decide +kernel) (pa_cons (pv 0) (pa_cons (pe_bltn (v := .ty "str") (u := .type "str") (by rfl) T.b_str (by decide +kernel) rfl) pa_nil))) (pe_one (pe_cmpR (op_or op_in_seq (op_in_dct hu)) (pv 0) (pv 1) rfl))))), ?_⟩
    refine ⟨_, rfl, _, n, rfl, hn, _, rfl, ?_⟩
    rw [isOf_str]
    refine ite2 (fun g => ?_) (fun g => ?_)
    · have hns : n = "str" := beq_iff_eq.mp g
      subst hns
      obtain ⟨z, rfl⟩ := tyG_str hn
      walk_at "rr"
      exact .inr ⟨q, _, rfl, DGet.k (k := Sum.inr z) hq, k⟩
    · have hf : isKn kvs v = false := by
        cases v with
        | str z =>
          cases hn with
          | blt h => cases h; exact absurd rfl g
        | _ => rfl
      rw [hf] at k
      exact k
theorem ok_System_prices (T : Top K mg) : OkM P w K mg base (L2.CX P w) 3 T.c_System "prices" ["self", "name"] (spPricesG K T.c_System T.c_NoRequest) := by
  refine okMX_of T.m_System_prices sc_System_prices (fun vs H Q E h => ?_) (fun f cdv A outer s H vs Q E hr h => ?_)
  · obtain ⟨p, S, v, n, rfl, _⟩ := h
    rfl
  · obtain ⟨p, S, v, n, rfl, ok, SA, hn, k1, k2⟩ := h
    obtain ⟨f_is_known, fd_is_known, m_is_known, k_is_known, b_is_known, G_is_known⟩ := ok_is_known (P := P) (w := w) (base := base) T
    have hr_is_known : Room 1 _ := hr.mono (by decide)
    obtain ⟨f_NoRequest, fd_NoRequest, i_NoRequest, t_NoRequest, b_NoRequest, G_NoRequest⟩ := ok_NoRequestZ_initZ (P := P) (w := w) (base := base) T
    have hr_NoRequest : Room 2 _ := hr.mono (by decide)
    have hu := hu_of hr
    obtain ⟨dx, mv, na, wv, q, kvs, hp, h2, h3, h4, hq, hR⟩ := SA.ex
    refine ⟨_, (pss_cons (ps_if (pt_not (pt_val (pe_call G_is_known hr_is_known rfl m_is_known k_is_known b_is_known .nil pass0 (pa_cons (pv 1) (pa_cons (pe_fld (pv 0) rfl) pa_nil)))))
      (pss_one (ps_raise rfl (takes_of rfl rfl rfl rfl) (pmk_oex T.x_NoRequest.T i_NoRequest t_NoRequest G_NoRequest hr_NoRequest b_NoRequest .nil pass0 (by rfl) T.x_NoRequest.mg (pa_cons (pv 1) pa_nil))))
      pss_nil)
      (pss_one (ps_ret (pe_dget hu (pe_fld (pv 0) rfl) (pv 1) (fun _ _ => rfl))))), ?_⟩
    refine ⟨_, rfl, _, rfl, p, T.c_System, dx, _, _, rfl, hp, T.cl_System, T.na_System__requests, sfs_requests, ?_⟩
    refine ⟨v, n, q, kvs, rfl, hn, hq, ?_⟩
    refine ⟨_, rfl, ?_⟩
    by_cases hz : ∃ z, v = .str z ∧ z ∈ S.rs.map (·.1)
    · obtain ⟨z, rfl, hm⟩ := hz
      obtain ⟨⟨z', row⟩, hm2, rfl⟩ := List.mem_map.mp hm
      clear hm
      obtain ⟨pv, hv, hO⟩ := dct_some hR ok.nd hm2
      have hk : isKn kvs (.str z') = true := by show (valV kvs (.inr z' : Key)).isSome = true; rw [hv]; rfl
      rw [hk]
      refine ite2 (fun g => nomatch g) (fun _ => ?_)
      refine ⟨_, rfl, p, T.c_System, dx, _, _, rfl, hp, T.cl_System, T.na_System__requests, sfs_requests, ?_⟩
      exact ⟨_, rfl, q, pv, rfl, (by rw [← hv]; exact DGet.k (k := Sum.inr z') hq), k1 z' row rfl hm2 pv hO⟩
    · have hk : isKn kvs v = false := by
        cases v with
        | str z =>
          show (valV kvs (.inr z : Key)).isSome = false
          rw [dct_none hR (fun hm => hz ⟨z, rfl, hm⟩)]; rfl
        | _ => rfl
      rw [hk]
      refine ite2 (fun _ => ?_) (fun g => absurd rfl g)
      exact ⟨_, rfl, (by show 1 ≤ 1000; decide), init_raise T.x_NoRequest.T T.x_NoRequest.no (k2 fun z e hm => hz ⟨z, e, hm⟩)⟩
theorem ok_risen (T : Top K mg) : OkX P w K mg base 4 "risen" ["system", "offsets", "name"] (spRisenG K T.c_System T.c_NoRequest) := by
  refine okX_of T.d_risen sc_risen (fun vs H Q E h => ?_) (fun f cdv A outer s H vs Q E hr h => ?_)
  · obtain ⟨p, S, v, off, nv, n, rfl, _⟩ := h
    rfl
  · obtain ⟨p, S, v, off, nv, nn, rfl, ok, SA, ⟨va, rfl, hva⟩, hol, hnv, k, kno⟩ := h
    obtain ⟨f_prices, fd_prices, M_prices, b_prices, G_prices⟩ := ok_System_prices (P := P) (w := w) (base := base) T
    have hr_prices : Room 3 _ := hr.mono (by decide)
    obtain ⟨dx, mv, na, wv, q, kvs, hp, h2, h3, ⟨wa, wvs, rfl, hwa, hwp⟩, hq, hR⟩ := SA.ex
    have hwl : (wvs.length : Int) = S.n := by rw [prd_len hwp]; exact ok.wy.len
    have n6 := ok.n6
    have n1 := ok.n1
    refine ⟨_, (pss_cons (ps_set (i := 3) sc_risen.nd rfl (Or.inr rfl) (pe_lc (own := [("offset", 6), ("price", 7), ("ways", 8)]) rfl sc_risen.nd (pi_zip3 (by rfl) T.b_zip (pa_cons (pv 1) (pa_cons (pe_meth (pv 0) T.cl_System M_prices G_prices hr_prices b_prices .nil (passes_call (takes_of rfl rfl rfl rfl) (fun _ _ _ _ h => h)) (pa_cons (pv 2) pa_nil)) (pa_cons (pe_fld (pv 0) rfl) pa_nil)))) (blkOk_by (own := [("offset", 6), ("price", 7), ("ways", 8)]) (N := ["system", "offsets", "name", "served", "raw", "rise", "offset", "price", "ways", "cost", "post"]) (sc := defScope s_risen) (by decide +kernel)) (fun _ _ _ _ _ => ((pg_tup rfl (pgs_cons (pg_name (i := 6) sc_risen.nd rfl (Or.inl rfl)) (pgs_cons (pg_name (i := 7) sc_risen.nd rfl (Or.inl rfl)) (pgs_cons (pg_name (i := 8) sc_risen.nd rfl (Or.inl rfl)) pgs_nil)))) : PG _ _ (gTup K 3 (gCons (gName 6) (gCons (gName 7) (gCons (gName 8) gNil)))))) (fun _ _ _ _ _ => (pts_one (pt_cmpR op_notN (pv 7) pe_non (nomark _)))) (fun _ _ _ _ _ => (pe_tup (pa_cons (pe_op op_add (pv 6) (pv 7)) (pa_cons (pv 8) pa_nil))))))
      (pss_cons (ps_setLc (i := 4) (own := [("post", 10)]) (g := gName 10) rfl sc_risen.nd rfl rfl (sw_true rfl rfl rfl (by decide +kernel)) (pi_range1 (by rfl) T.b_range (pa_cons (pe_fld (pv 0) rfl) pa_nil)) (blkOk_by (own := [("post", 10)]) (N := ["system", "offsets", "name", "served", "raw", "rise", "offset", "price", "ways", "cost", "post"]) (sc := defScope s_risen) (by decide +kernel)) (fun _ _ _ _ _ => (pg_name (i := 10) sc_risen.nd rfl (Or.inr rfl))) (fun _ _ _ _ _ => pts_nil) (fun _ _ _ _ _ => (pe_callB (id := "min") ((cr_min rfl) : CallR _ _ (rMin K)) (by rfl) T.b_min (by decide +kernel) (pa_cons (pe_lc (own := [("cost", 9), ("ways", 8)]) rfl sc_risen.nd (pi_list (pv 3) : PI _ _ _ (iList K _)) (blkOk_fr (own := [("cost", 9), ("ways", 8)]) (N := ["system", "offsets", "name", "served", "raw", "rise", "offset", "price", "ways", "cost", "post"]) ["post"] (by decide +kernel) ⟨(by first | exact Or.inl rfl | exact Or.inr rfl), True.intro⟩) (fun _ _ _ _ _ => ((pg_tup rfl (pgs_cons (pg_name (i := 9) sc_risen.nd rfl (Or.inl rfl)) (pgs_cons (pg_name (i := 8) sc_risen.nd rfl (Or.inl rfl)) pgs_nil))) : PG _ _ (gTup K 2 (gCons (gName 9) (gCons (gName 8) gNil))))) (fun _ _ _ _ _ => pts_nil) (fun _ _ _ _ _ => (pe_op op_add (pv 9) (pe_ix (ix_tup : IxR _ (rIxT K)) (pv 8) (pv 10) (fun _ _ => rfl))))) pa_nil))))
      (pss_cons (ps_set (i := 5) sc_risen.nd rfl (Or.inr rfl) (pe_callB (id := "min") (cr_min rfl) (by rfl) T.b_min (by decide +kernel) (pa_cons (pv 4) pa_nil)))
      (pss_one (ps_ret (pe_tup (pa_cons (pe_callTy (T := "tuple") call_tuple_of (by rfl) T.b_tuple (by decide +kernel) (pa_cons (pe_lc (own := [("cost", 9)]) (g := gName 9) rfl sc_risen.nd (pi_list (pv 4)) (blkOk_by (own := [("cost", 9)]) (N := ["system", "offsets", "name", "served", "raw", "rise", "offset", "price", "ways", "cost", "post"]) (sc := defScope s_risen) (by decide +kernel)) (fun _ _ _ _ _ => (pg_name (i := 9) sc_risen.nd rfl (Or.inl rfl))) (fun _ _ _ _ _ => pts_nil) (fun _ _ _ _ _ => (pe_op op_sub (pv 9) (pv 5)))) pa_nil)) (pa_cons (pv 5) pa_nil)))))))), ?_⟩
    refine ⟨_, rfl, _, rfl, p, dx, _, rfl, hp, sfs_no (by decide +kernel) (by decide +kernel) (by decide +kernel) (by decide +kernel) (by decide +kernel), _, rfl, ?_⟩
    refine ⟨p, S, nv, nn, rfl, ok, SA, hnv, fun z row ez hm pv hpv => ?_, kno⟩
    obtain ⟨pa, rfl, hpa⟩ := hpv
    have k := k z row ez hm
    have hrow := (ok.pr _ hm).1
    have hrl : (row.length : Int) = S.n := hrow.len
    unfold AfterIs at k
    refine ⟨_, rfl, p, T.c_System, dx, _, _, rfl, hp, T.cl_System, T.na_System_ways, sfs_ways, va, pa, wa, _, _, _, rfl, SqT.of hva, SqT.of hpa, SqT.of hwa, fun D nD => ?_⟩
    refine lc_it (walk_zip3 (K := K) (a := va) (b := pa) (e := wa) (xs := off.map V.int) (ys := row.map vO) (zs := wvs) (by rw [List.length_map, List.length_map]; omega) (by rw [List.length_map]; omega)) (fun i H2 => ∃ us : List V, H2 D = some (.lst us) ∧ Paired (SvT S.ws H2) us (srv i off row) ∧ Same H H2) ⟨[], upd_same, .nil, same_new nD⟩
      (fun i H2 _ ⟨_, _, _, s2⟩ => ⟨SqT.of (s2 _ _ hva), SqT.of (s2 _ _ hpa), SqT.of (s2 _ _ hwa)⟩) ?_ ?_
    · rintro i x H2 H3 hi ⟨us, e1, e2, s2⟩ ⟨tp, x1, y1, u1, rfl, np, rfl, g1, g2, g3⟩
      obtain ⟨o, ho, rfl⟩ := map_at g1
      have hil := (List.getElem?_eq_some_iff.mp ho).1
      obtain ⟨wrow, hwrow, ra, rfl, hra⟩ := prd_at1 hwp g3
      have r1 : (row.map vO)[i]? = some (vO (row.getD i none)) := by rw [List.getElem?_map, getDat none (by omega)]; rfl
      obtain rfl : vO (row.getD i none) = y1 := Option.some.inj (r1.symm.trans g2)
      have s3 : Same H2 (upd H2 tp (.tup [.int o, vO (row.getD i none), .ref ra])) := same_new np
      refine ⟨tp, _, rfl, SqT.of upd_same, rfl, _, _, rfl, _, _, rfl, _, _, rfl, rfl, rfl, ?_⟩
      refine ⟨_, rfl, rfl, _, rfl, ?_⟩
      cases hc : row.getD i none with
      | none =>
        refine ite2 (fun g => absurd g (by decide)) (fun _ => ?_)
        rw [hc] at s3
        exact ⟨us, s3 _ _ e1, by rw [srv_none hc]; exact prd_imp e2 fun x y r => SvT.firm (same_tups s3) r, s2.trans s3⟩
      | some c =>
        rw [hc] at s3
        refine ite2 (fun _ => ?_) (fun g => absurd (by rfl) g)
        refine ⟨_, rfl, _, rfl, _, _, rfl, rfl, _, rfl, (by show 2 ≤ sizeLine; decide), fun t nt => ?_⟩
        have s4 := s3.trans (same_new (o := .tup [.int (o + c), .ref ra]) nt)
        have hD4 := s4 _ _ e1
        refine ⟨us, hD4, ?_, us ++ [.ref t], upd_same, ?_, same_upd (s2.trans s4) nD⟩
        · rw [prd_len e2]; exact small1000 (Nat.le_trans (srv_len _ _ _) (by omega))
        have hF : ∀ e xs, (upd (upd H2 tp (.tup [.int o, vO (some c), .ref ra])) t (.tup [.int (o + c), .ref ra])) e = some (.tup xs) → (upd (upd (upd H2 tp (.tup [.int o, vO (some c), .ref ra])) t (.tup [.int (o + c), .ref ra])) D (.lst (us ++ [.ref t]))) e = some (.tup xs) := fun e xs q => (upd_ne (ne_of q hD4 (by intro z; cases z))).trans q
        rw [srv_some hc]
        refine Paired.snoc (prd_imp e2 fun x y r => SvT.firm hF (SvT.firm (same_tups s4) r)) ⟨t, ra, wrow, rfl, ?_, hF _ _ (s4 _ _ (s2 _ _ hra)), hwrow⟩
        rw [getD_some ho]
        exact hF _ _ upd_same
    · rintro H2 ⟨us, e1, e2, s2⟩
      rw [List.length_map, hol] at e2
      have hsl := srv_len S.n.toNat off row
      have hsne := srv_ne (off := off) (row := row) (n := S.n.toNat) (by omega) hrow.some
      generalize srv S.n.toNat off row = sv at e2 hsl hsne k ⊢
      have hul := prd_len e2
      refine ⟨_, rfl, p, T.c_System, dx, _, _, rfl, s2 _ _ hp, T.cl_System, T.na_System_posts, sfs_posts, _, rfl, by omega, by omega, fun R nR => ?_⟩
      refine lc_range (lo := 0) (n := S.n.toNat) (fun i H3 => H3 R = some (.lst (((List.range i).map (rawAt S.ws sv)).map V.int)) ∧ Same H2 H3) ⟨upd_same, same_new nR⟩ ?_ ?_
      · rintro i H3 hi ⟨f1, f2⟩
        rw [Int.zero_add]
        refine ⟨rfl, ?_⟩
        refine yesT ?_
        refine ⟨_, rfl, D, rfl, ⟨_, SqL.of (f2 _ _ e1)⟩, fun Ec nE => ?_⟩
        refine lc_list (K := K) (a := D) (xs := us) (fun j H4 => H4 Ec = some (.lst (((sv.take j).map fun q => q.1 + mat S.ws q.2 i).map V.int)) ∧ Same H3 H4) ⟨upd_same, same_new nE⟩ (fun j H4 _ h4 => SqL.of (h4.2 _ _ (f2 _ _ e1))) ?_ ?_
        · rintro j x H4 hj ⟨q1, q2⟩
          obtain ⟨qq, hqq, t, ra, r, rfl, ht, hra, hwr⟩ := prd_at1 e2 hj
          have hrr := ok.wy.row r (List.mem_of_getElem? hwr)
          have s24 := f2.trans q2
          have hri : (r.map V.int)[i]? = some (.int (r.getD i 0)) := by rw [List.getElem?_map, getDat 0 (by omega)]; rfl
          refine ⟨t, _, rfl, SqT.of (s24 _ _ ht), rfl, _, _, rfl, _, _, rfl, rfl, rfl, ?_⟩
          refine yesT ?_
          refine ⟨_, rfl, _, rfl, _, rfl, ra, _, (i : Nat), .int (r.getD i 0), rfl, rfl, SqT.of (s24 _ _ hra), atI_nat hri, _, _, rfl, rfl, ?_⟩
          refine ⟨_, q1, ?_, ?_, same_upd q2 nE⟩
          · rw [List.length_map, List.length_map, List.length_take]; exact small1000 (Nat.le_trans (Nat.min_le_right _ _) (by omega))
          · rw [upd_same, List.take_add_one, hqq, List.map_append, List.map_append, ← mat_at hwr i]; rfl
        · rintro H4 ⟨q1, q2⟩
          rw [hul, List.take_length] at q1
          refine ⟨Ec, _, rfl, SqL.of q1, (by rw [List.length_map]; exact List.length_pos_iff.mpr hsne), fun m hm hle => ?_⟩
          have em : rawAt S.ws sv i = m := minL_eq hm hle
          refine ⟨_, q2 _ _ f1, ?_, ?_, same_upd (f2.trans q2) nR⟩
          · rw [List.length_map, List.length_map, List.length_range]; exact small1000 (by omega)
          · rw [upd_same, List.range_succ, List.map_append, List.map_append, ← em]; rfl
      · rintro H3 ⟨f1, f2⟩
        have f1' : H3 R = some (.lst ((rawL S.n.toNat S.ws sv).map V.int)) := f1
        have hrawl : (rawL S.n.toNat S.ws sv).length = S.n.toNat := rawL_len
        generalize rawL S.n.toNat S.ws sv = raw at f1' hrawl k ⊢
        refine ⟨_, rfl, R, _, rfl, SqL.of f1', by omega, fun m hm hle => ?_⟩
        have em : minL raw = m := minL_eq hm hle
        subst em
        refine ⟨_, rfl, R, rfl, ⟨_, SqL.of f1'⟩, fun D3 nD3 => ?_⟩
        refine lc_list (K := K) (a := R) (xs := raw.map V.int) (fun j H4 => H4 D3 = some (.lst (((raw.take j).map fun c => c - minL raw).map V.int)) ∧ Same H3 H4) ⟨upd_same, same_new nD3⟩ (fun j H4 _ h4 => SqL.of (h4.2 _ _ f1')) ?_ ?_
        · rintro j x H4 hj ⟨q1, q2⟩
          obtain ⟨y, hy, rfl⟩ := map_at hj
          refine ⟨rfl, ?_⟩
          refine yesT ?_
          refine ⟨_, rfl, _, rfl, _, _, rfl, rfl, ?_⟩
          refine ⟨_, q1, ?_, ?_, same_upd q2 nD3⟩
          · rw [List.length_map, List.length_map, List.length_take]; exact small1000 (Nat.le_trans (Nat.min_le_right _ _) (by omega))
          · rw [upd_same, List.take_add_one, hy, List.map_append, List.map_append]; rfl
        · rintro H4 ⟨q1, q2⟩
          rw [List.length_map, List.take_length] at q1
          refine ⟨D3, _, rfl, .inl ⟨SqL.of q1, fun tt ntt => ?_⟩⟩
          refine ⟨_, rfl, (by show 2 ≤ sizeLine; decide), fun t nt => ?_⟩
          refine k t _ ?_ ⟨.ref tt, upd_same, ⟨tt, rfl, (upd_ne (ne_of_none upd_same nt)).trans upd_same⟩⟩
          exact (s2.trans (f2.trans q2)).trans ((same_new ntt).trans (same_new nt))
theorem ok_after_request (T : Top K mg) : OkX P w K mg base 5 "after_request" ["system", "offsets", "name"] (spAfterG K T.c_System T.c_NoRequest T.c_BadOffsets) := by
  refine okX_of T.d_after_request sc_after_request (fun vs H Q E h => ?_) (fun f cdv A outer s H vs Q E hr h => ?_)
  · obtain ⟨p, S, v, nv, n, rfl, _⟩ := h
    rfl
  · obtain ⟨p, S, v, nv, n, rfl, ok, SA, hT, hn, k, kb, kn⟩ := h
    obtain ⟨f_is_offsets, fd_is_offsets, m_is_offsets, k_is_offsets, b_is_offsets, G_is_offsets⟩ := ok_is_offsets (P := P) (w := w) (base := base) T
    have hr_is_offsets : Room 3 _ := hr.mono (by decide)
    obtain ⟨f_risen, fd_risen, m_risen, k_risen, b_risen, G_risen⟩ := ok_risen (P := P) (w := w) (base := base) T
    have hr_risen : Room 4 _ := hr.mono (by decide)
    refine ⟨_, (pss_cons (ps_if (pt_not (pt_val (pe_call G_is_offsets hr_is_offsets rfl m_is_offsets k_is_offsets b_is_offsets .nil pass0 (pa_cons (pv 0) (pa_cons (pv 1) pa_nil)))))
      (pss_one (ps_raise rfl (takes_of rfl rfl rfl rfl) (pmk_ret rfl (pe_err0 PySem.F.excBase_ValueError T.y_BadOffsets.ex T.mg_BadOffsets T.y_BadOffsets.kp rfl))))
      pss_nil)
      (pss_one (ps_ret (pe_call G_risen hr_risen rfl m_risen k_risen b_risen .nil (passes_call (takes_of rfl rfl rfl rfl) (fun _ _ _ _ h => h)) (pa_cons (pv 0) (pa_cons (pv 1) (pa_cons (pv 2) pa_nil))))))), ?_⟩
    refine ⟨_, rfl, _, rfl, p, S, v, rfl, ok, SA, hT, fun b H1 s1 hb => ⟨_, rfl, ?_⟩⟩
    cases b with
    | false =>
      refine ite2 (fun _ => ?_) (fun g => absurd rfl g)
      refine fun a na => ⟨a, _, rfl, upd_same, fr0_none ?_, raises_own T.y_BadOffsets.er.x.exC T.y_BadOffsets.ty, ?_⟩
      · show H a = none
        cases e : H a with
        | none => rfl
        | some o => rw [s1 _ _ e] at na; cases na
      · rw [delH_new na]
        exact kb (fun z => nomatch (hb.mpr z)) _ s1
    | true =>
      refine ite2 (fun g => nomatch g) (fun _ => ?_)
      have hO := hb.mp rfl
      obtain ⟨off, hv, O⟩ := hO
      refine ⟨_, rfl, _, rfl, _, rfl, p, S, v, off, nv, n, rfl, ok, SA.same s1, IntT.firm H _ _ _ (same_tups s1) hv, O.len, hn.same s1, fun z row ez hm t H2 s2 h2 => ?_, fun hno => ?_⟩
      · exact k off z row hv O ez hm t H2 (s1.trans s2) h2
      · exact (kn (hb.mp rfl) hno).same s1
end
end Toy

namespace Toy
open PySem PySem.Spec PyProof.Rows L2
local macro_rules | `(tactic| walk_at "hp") => `(tactic| first
  | assumption
  | exact upd_same
  | (refine Eq.trans (upd_ne (by first | assumption | (apply Ne.symm; assumption))) ?_; walk_at "hp"))
local macro_rules | `(tactic| walk_at "side") => `(tactic| first
  | exact .inl ⟨by omega, by omega⟩
  | exact .inr ⟨by omega, by omega⟩
  | exact ⟨by omega, by omega⟩
  | (show _ ≤ _; omega)
  | (show (_ : Int) < _; omega)
  | decide
  | assumption)
local macro_rules | `(tactic| walk_at "r") => `(tactic| first
  | refine ⟨_, rfl, ?_⟩
  | refine ⟨_, _, rfl, rfl, ?_⟩
  | refine ⟨_, _, _, _, rfl, rfl, SqL.of (by walk_at "hp"), rfl, ?_⟩
  | refine ⟨_, _, _, _, rfl, rfl, SqT.of (by walk_at "hp"), rfl, ?_⟩
  | refine ⟨_, _, _, _, rfl, rfl, (by walk_at "hp"), rfl, ?_⟩
  | refine And.intro rfl ?_
  | refine ⟨_, _, rfl, SqT.of (by walk_at "hp"), ?_⟩
  | refine ⟨_, _, rfl, SqL.of (by walk_at "hp"), ?_⟩
  | refine .inl ⟨_, rfl, ?_⟩
  | refine ⟨_, _, rfl, .inl (SqL.of (by walk_at "hp")), ?_⟩
  | refine ⟨_, _, rfl, .inr (SqT.of (by walk_at "hp")), ?_⟩
  | refine ⟨_, _, rfl, .inl ⟨SqL.of (by walk_at "hp"), ?_⟩⟩
  | refine And.intro (.inl ⟨rfl, _, SqL.of (by walk_at "hp")⟩) ?_
  | refine ⟨_, _, _, rfl, rfl, (by walk_at "hp"), ?_⟩
  | refine ⟨_, _, rfl, (by walk_at "hp"), ?_⟩
  | refine And.intro (by walk_at "side") ?_)
local macro_rules | `(tactic| walk_at "rr") => `(tactic| (repeat walk_at "r"))
local macro_rules | `(tactic| walk_at "k") => `(tactic| first
  | refine ite2 (fun _ => ?_) (fun g => absurd rfl g)
  | refine ite2 (fun g => absurd g (by decide)) (fun _ => ?_)
  | refine ite2 (fun _ => ?_) (fun g => absurd (decide_eq_true (by omega)) g)
  | refine ite2 (fun g => absurd (of_decide_eq_true g) (by omega)) (fun _ => ?_)
  | refine ite2 (fun g => (nd_t g (by omega)).elim) (fun _ => ?_)
  | refine ite2 (fun _ => ?_) (fun g => absurd (nd_f g) (by omega)))
local macro_rules | `(tactic| walk_at "rk") => `(tactic| (repeat (first | walk_at "r" | walk_at "k")))
def spOddV : Sp := fun vs H Q _ => ∃ (d c : Addr), vs = [.ref d] ∧ Dice c H d ∧ ∀ v H', OddV (fun a => H a = none) H' v → Keep d H H' → Dice c H' d → Q v H'
theorem same_none {H H' : Hp} {a : Addr} (k : Same H H') (h : H' a = none) : H a = none := by
  cases e : H a with
  | none => rfl
  | some o => rw [k _ _ e] at h; cases h
section
variable {P : Program} {w : World} {K : PySem.W.Frag} {mg : Str → Option Value} {base : Heap}
theorem ok__law_odd (T : Top K mg) : Ok P w K mg base 2 "_law_odd" ["dice"] spOddV := by
  refine ok_of T.d__law_odd sc__law_odd (fun vs H Q E h => ?_) (fun f cdv A outer s H vs Q E hr h => ?_)
  · obtain ⟨d, c, rfl, _⟩ := h
    rfl
  · obtain ⟨d, c, rfl, D, k⟩ := h
    obtain ⟨f__law_draw, fd__law_draw, m__law_draw, k__law_draw, b__law_draw, G__law_draw⟩ := ok__law_draw (P := P) (w := w) (base := base) T
    have hr__law_draw : Room 1 _ := hr.mono (by decide)
    have hu := hu_of hr
    refine ⟨_, (pss_cons (ps_set (i := 1) sc__law_odd.nd rfl (Or.inl rfl) (pe_lst (pa_cons pe_int pa_nil)))
      (pss_cons (ps_for PassesOwn.never rfl (pi_range1 (by rfl) T.b_range (pa_cons pe_int pa_nil)) (pg_name (i := 2) sc__law_odd.nd rfl (Or.inl rfl))
      (pss_one (ps_set (i := 1) sc__law_odd.nd rfl (Or.inl rfl) (pe_lst (pa_cons (pv 1) pa_nil)))))
      (pss_cons (ps_set (i := 3) sc__law_odd.nd rfl (Or.inl rfl) (pe_lst (pa_cons pe_non (pa_cons pe_bl (pa_cons pe_bl (pa_cons pe_str (pa_cons pe_str (pa_cons pe_str (pa_cons (pe_lst pa_nil) (pa_cons (pe_tup pa_nil) (pa_cons pe_dnewK (pa_cons (pe_lst (pa_cons pe_int pa_nil)) (pa_cons (pe_tup (pa_cons pe_int pa_nil)) (pa_cons (pe_disp (pps_cons pe_str pe_int pps_nil) (by rfl) (by rfl) (fun z => by cases z) (by decide)) (pa_cons (pe_un un_neg pe_int) (pa_cons (pe_op op_pow pe_int pe_int) (pa_cons (pv 1) (pa_cons (pe_tup (pa_cons pe_non (pa_cons pe_str pa_nil))) pa_nil))))))))))))))))))
      (pss_one (ps_ret (pe_ix ix_list (pv 3) (pe_call G__law_draw hr__law_draw rfl m__law_draw k__law_draw b__law_draw .nil pass0 (pa_cons (pv 0) (pa_cons (pe_callB (id := "len") call_len_seq (by rfl) T.b_len (by decide +kernel) (pa_cons (pv 3) pa_nil)) pa_nil))) (fun _ _ => rfl))))))), ?_⟩
    refine ⟨(by show 1 ≤ sizeLine; decide), fun l0 nl0 => ?_⟩
    refine ⟨_, rfl, by decide, by decide, ?_⟩
    refine for_range (lo := 0) (n := 24) (fun i σ' H1 => ∃ (p : Addr) (o : Option V), σ' = [some (.ref d), some (.ref p), o, none] ∧ (∃ dt, DatP (fun a => H a = none) H1 (.ref p) dt ∧ PyData.canLay0 dt = true ∧ PyData.depth dt ≤ i + 1) ∧ Same H H1) ⟨l0, none, rfl, ⟨.list [.int 0], datP_one nl0 upd_same (.int 0), rfl, by decide⟩, same_new nl0⟩ ?_ ?_
    · rintro i σ' H1 hi ⟨p, o, rfl, ⟨dt, hp, hp2, hp3⟩, s1⟩
      refine ⟨_, rfl, (by show 1 ≤ sizeLine; decide), fun l1 nl1 => ?_⟩
      exact ⟨l1, _, rfl, ⟨.list [dt], datP_one (same_none s1 nl1) upd_same (hp.same (same_new nl1)), by simp [PyData.canLay0, PyData.canLayAll0, hp2], by simp [PyData.depth, PyData.depthAll]; omega⟩, s1.trans (same_new nl1)⟩
    · rintro σ' H1 ⟨p, o, rfl, ⟨dt, hp, hp2, hp3⟩, s1⟩
      refine ⟨(by show 0 ≤ sizeLine; decide), fun a1 n1 => ?_⟩
      have e1 : (upd H1 a1 (.lst [])) a1 = some (.lst []) := upd_same
      have t1 : Same H1 (upd H1 a1 (.lst [])) := same_new n1
      generalize upd H1 a1 (.lst []) = H2 at *
      refine ⟨(by show 0 ≤ sizeLine; decide), fun a2 n2 => ?_⟩
      have e2 : (upd H2 a2 (.tup [])) a2 = some (.tup []) := upd_same
      have t2 : Same H2 (upd H2 a2 (.tup [])) := same_new n2
      generalize upd H2 a2 (.tup []) = H3 at *
      intro a3 n3
      have e3 : (upd H3 a3 (.dK [])) a3 = some (.dK []) := upd_same
      have t3 : Same H3 (upd H3 a3 (.dK [])) := same_new n3
      generalize upd H3 a3 (.dK []) = H4 at *
      refine ⟨(by show 1 ≤ sizeLine; decide), fun a4 n4 => ?_⟩
      have e4 : (upd H4 a4 (.lst [.int 0])) a4 = some (.lst [.int 0]) := upd_same
      have t4 : Same H4 (upd H4 a4 (.lst [.int 0])) := same_new n4
      generalize upd H4 a4 (.lst [.int 0]) = H5 at *
      refine ⟨(by show 1 ≤ sizeLine; decide), fun a5 n5 => ?_⟩
      have e5 : (upd H5 a5 (.tup [.int 0])) a5 = some (.tup [.int 0]) := upd_same
      have t5 : Same H5 (upd H5 a5 (.tup [.int 0])) := same_new n5
      generalize upd H5 a5 (.tup [.int 0]) = H6 at *
      intro a6 n6
      refine ⟨upd_same, [(Sum.inr "a", .int 0)], rfl, (by show 1 ≤ 15; decide), ?_⟩
      rw [upd_upd]
      have t6 : Same H6 (upd H6 a6 (.dK (mergeK [] [(Sum.inr "a", .int 0)]))) := same_new n6
      have e6 : (upd H6 a6 (.dK (mergeK [] [(Sum.inr "a", .int 0)]))) a6 = some (.dK [(Sum.inr "a", .int 0)]) := upd_same
      generalize upd H6 a6 (.dK (mergeK [] [(Sum.inr "a", .int 0)])) = H7 at *
      walk_at "rr"
      intro a7 n7
      have e7 : (upd H7 a7 (.tup [.non, .str "a"])) a7 = some (.tup [.non, .str "a"]) := upd_same
      have t7 : Same H7 (upd H7 a7 (.tup [.non, .str "a"])) := same_new n7
      generalize upd H7 a7 (.tup [.non, .str "a"]) = H8 at *
      refine ⟨(by show 16 ≤ sizeLine; decide), fun m nm => ?_⟩
      let xs : List V := [.non, .bl true, .bl false, .str "", .str "a", .str "Ab", .ref a1, .ref a2, .ref a3, .ref a4, .ref a5, .ref a6, .int (-1), .int (10 ^ 29), .ref p, .ref a7]
      have em : (upd H8 m (.lst xs)) m = some (.lst xs) := upd_same
      have tm : Same H8 (upd H8 m (.lst xs)) := same_new nm
      obtain ⟨H9, hH9⟩ : ∃ H9, H9 = upd H8 m (.lst xs) := ⟨_, rfl⟩
      rw [← hH9] at em tm
      have s8 := t7.trans tm
      have s7 := t6.trans s8
      have s6 := t5.trans s7
      have s5 := t4.trans s6
      have s4 := t3.trans s5
      have s3 := t2.trans s4
      have s2 := t1.trans s3
      have hN : ∀ {a : Addr} {H' : Hp}, Same H1 H' → H' a = none → H a = none := fun k h => same_none (s1.trans k) h
      have q2 := t1
      have q3 := q2.trans t2
      have q4 := q3.trans t3
      have q5 := q4.trans t4
      have q6 := q5.trans t5
      have q7 := q6.trans t6
      have dat : ∀ x ∈ xs, OddV (fun a => H a = none) H9 x := by
        intro x hx
        simp only [xs, List.mem_cons, List.not_mem_nil, or_false] at hx
        rcases hx with rfl | rfl | rfl | rfl | rfl | rfl | rfl | rfl | rfl | rfl | rfl | rfl | rfl | rfl | rfl | rfl
        · exact .inl ⟨_, .non, by decide +kernel⟩
        · exact .inl ⟨_, .bl _, by decide +kernel⟩
        · exact .inl ⟨_, .bl _, by decide +kernel⟩
        · exact .inl ⟨_, .str _, by decide +kernel⟩
        · exact .inl ⟨_, .str _, by decide +kernel⟩
        · exact .inl ⟨_, .str _, by decide +kernel⟩
        · exact .inl ⟨.list [], .lst _ _ _ (hN (Same.refl _) n1) (s3 _ _ e1) rfl (by intro i x d h; simp at h), by decide +kernel⟩
        · exact .inl ⟨.tuple [], .tup _ _ _ (hN q2 n2) (s4 _ _ e2) rfl (by intro i x d h; simp at h), by decide +kernel⟩
        · exact .inr ⟨_, _, rfl, hN q3 n3, s5 _ _ e3, by simp, by intro x hx; cases hx⟩
        · exact .inl ⟨_, datP_one (hN q4 n4) (s6 _ _ e4) (.int _), by decide +kernel⟩
        · exact .inl ⟨_, datP_oneT (hN q5 n5) (s7 _ _ e5) (.int _), by decide +kernel⟩
        · exact .inr ⟨_, _, rfl, hN q6 n6, s8 _ _ e6, by simp, by intro x hx; rw [List.mem_singleton.mp hx]; exact ⟨rfl, .int _⟩⟩
        · exact .inl ⟨_, .int _, by decide +kernel⟩
        · exact .inl ⟨_, .int _, by decide +kernel⟩
        · refine .inl ⟨dt, hp.same s2, ?_⟩
          show (PyData.canLay0 dt && decide (PyData.depth dt ≤ 64)) = true
          rw [hp2, decide_eq_true (show PyData.depth dt ≤ 64 by omega)]; rfl
        · refine .inl ⟨.tuple [.none, .str "a"], .tup _ _ _ (hN q7 n7) (tm _ _ e7) rfl ?_, by decide +kernel⟩
          intro i x d h1 h2
          match i with
          | 0 => cases h1; cases h2; exact .non
          | 1 => cases h1; cases h2; exact .str _
          | i + 2 => simp at h1
      have D9 : Dice c H9 d := D.same (s1.trans s2)
      have k9 : Keep d H H9 := same_keep (s1.trans s2)
      have hl : xs.length = 16 := rfl
      subst hH9
      refine ⟨_, rfl, _, rfl, _, rfl, m, xs, rfl, .inl (SqL.of em), d, c, _, rfl, D9, by omega, by omega, fun v H10 v0 v1 k10 D10 => ?_⟩
      have nmd : m ≠ d := by
        intro z; subst z
        obtain ⟨o', e⟩ := D.some
        rw [hN (q7.trans t7) nm] at e
        cases e
      have em' := k10 _ _ nmd em
      obtain ⟨x, hx⟩ : ∃ x, xs[v.toNat]? = some x := ⟨_, List.getElem?_eq_getElem (by omega)⟩
      refine ⟨m, xs, v, x, rfl, rfl, SqL.of em', ?_, ?_⟩
      · have := atI_nat (xs := xs) hx
        rwa [Int.toNat_of_nonneg v0] at this
      · refine k x H10 ((dat x (List.mem_of_getElem? hx)).mono (fun a o na ea => k10 a o (fun z => ?_) ea) fun a h _ => h) (k9.trans k10) D10
        subst z
        obtain ⟨o', e⟩ := D.some
        rw [e] at na; cases na
end
end Toy

namespace Toy
open PySem PySem.Spec PyProof.Rows L2
local macro_rules | `(tactic| walk_at "hp") => `(tactic| first
  | assumption
  | exact upd_same
  | (refine Eq.trans (upd_ne (by first | assumption | (apply Ne.symm; assumption))) ?_; walk_at "hp"))
local macro_rules | `(tactic| walk_at "side") => `(tactic| first
  | exact .inl ⟨by omega, by omega⟩
  | exact .inr ⟨by omega, by omega⟩
  | exact ⟨by omega, by omega⟩
  | (show _ ≤ _; omega)
  | (show (_ : Int) < _; omega)
  | decide
  | assumption)
local macro_rules | `(tactic| walk_at "r") => `(tactic| first
  | refine ⟨_, rfl, ?_⟩
  | refine ⟨_, _, rfl, rfl, ?_⟩
  | refine ⟨_, _, _, _, rfl, rfl, SqL.of (by walk_at "hp"), rfl, ?_⟩
  | refine ⟨_, _, _, _, rfl, rfl, SqT.of (by walk_at "hp"), rfl, ?_⟩
  | refine ⟨_, _, _, _, rfl, rfl, (by walk_at "hp"), rfl, ?_⟩
  | refine And.intro rfl ?_
  | refine ⟨_, _, rfl, SqT.of (by walk_at "hp"), ?_⟩
  | refine ⟨_, _, rfl, SqL.of (by walk_at "hp"), ?_⟩
  | refine .inl ⟨_, rfl, ?_⟩
  | refine ⟨_, _, rfl, .inl (SqL.of (by walk_at "hp")), ?_⟩
  | refine ⟨_, _, rfl, .inr (SqT.of (by walk_at "hp")), ?_⟩
  | refine ⟨_, _, rfl, .inl ⟨SqL.of (by walk_at "hp"), ?_⟩⟩
  | refine And.intro (.inl ⟨rfl, _, SqL.of (by walk_at "hp")⟩) ?_
  | refine ⟨_, _, _, rfl, rfl, (by walk_at "hp"), ?_⟩
  | refine ⟨_, _, rfl, (by walk_at "hp"), ?_⟩
  | refine And.intro (by walk_at "side") ?_)
local macro_rules | `(tactic| walk_at "rr") => `(tactic| (repeat walk_at "r"))
local macro_rules | `(tactic| walk_at "k") => `(tactic| first
  | refine ite2 (fun _ => ?_) (fun g => absurd rfl g)
  | refine ite2 (fun g => absurd g (by decide)) (fun _ => ?_)
  | refine ite2 (fun _ => ?_) (fun g => absurd (decide_eq_true (by omega)) g)
  | refine ite2 (fun g => absurd (of_decide_eq_true g) (by omega)) (fun _ => ?_)
  | refine ite2 (fun g => (nd_t g (by omega)).elim) (fun _ => ?_)
  | refine ite2 (fun _ => ?_) (fun g => absurd (nd_f g) (by omega)))
local macro_rules | `(tactic| walk_at "rk") => `(tactic| (repeat (first | walk_at "r" | walk_at "k")))
local macro_rules | `(tactic| walk_at "no") => `(tactic| (refine ⟨_, rfl, rfl, _, rfl, ?_⟩; refine ite2 (fun g => absurd g (by decide)) (fun _ => ?_)))
local macro_rules | `(tactic| walk_at "yes") => `(tactic| (refine ⟨_, rfl, rfl, _, rfl, ?_⟩; refine ite2 (fun _ => ?_) (fun g => absurd rfl g)))
theorem ixN_nat {n k : Nat} (h : k < n) : ixN n ((k : Nat) : Int) = some k := by
  unfold ixN
  rw [if_pos (by omega), if_pos (by omega)]
  rfl
theorem cut_mem {xs : List V} {lo hi : Option Int} {x : V} (h : x ∈ cutV xs lo hi) : x ∈ xs := List.mem_of_mem_drop (List.mem_of_mem_take h)
def spSpoil : Sp := fun vs H Q _ => ∃ (d c : Addr) (ov : V) (off : List Int), vs = [.ref d, ov] ∧ Dice c H d ∧ IntT H ov off ∧ 1 ≤ off.length ∧ off.length ≤ 6 ∧ ∀ v H', Dat (fun a => a ≠ d) H' v → Keep d H H' → Dice c H' d → Q v H'
/-- a list of things, apart from the dice -/
structure StJ (d c I : Addr) (H0 H : Hp) (xs : List V) : Prop where
  it : H I = some (.lst xs)
  xd : ∀ x ∈ xs, Dat (fun a => a ≠ d ∧ a ≠ I) H x
  kp : Keep d H0 H
  di : Dice c H d
theorem StJ.set {d c I : Addr} {xs : List V} {H0 H : Hp} (s : StJ d c I H0 H xs) (nId : I ≠ d) (nIc : I ≠ c) (n0 : H0 I = none) {ys : List V} (hy : ∀ y ∈ ys, Dat (fun a => a ≠ d ∧ a ≠ I) H y) : StJ d c I H0 (upd H I (.lst ys)) ys :=
  ⟨upd_same, fun y m => (hy y m).mono (fun a o ha e => (upd_ne ha.2).trans e) fun a ha _ => ha, s.kp.mut n0, s.di.upd nId nIc⟩
theorem StJ.keep {d c I : Addr} {xs : List V} {H0 H H' : Hp} (s : StJ d c I H0 H xs) (k : Keep d H H') (D : Dice c H' d) (nId : I ≠ d) : StJ d c I H0 H' xs :=
  ⟨k _ _ nId s.it, fun x hx => (s.xd x hx).mono (fun a o ha e => k _ _ ha.1 e) fun _ h _ => h, s.kp.trans k, D⟩
theorem mem_set_dat {A : Addr → Prop} {H : Hp} {xs : List V} {x : V} {j : Nat} (h : ∀ y ∈ xs, Dat A H y) (hx : Dat A H x) : ∀ y ∈ xs.set j x, Dat A H y := fun y m => by
  rcases List.mem_or_eq_of_mem_set m with q | q
  · exact h y q
  · rw [q]; exact hx
section
variable {P : Program} {w : World} {K : PySem.W.Frag} {mg : Str → Option Value} {base : Heap}
theorem ok__law_spoiled (T : Top K mg) : Ok P w K mg base 3 "_law_spoiled" ["dice", "offsets"] spSpoil := by
  refine ok_of T.d__law_spoiled sc__law_spoiled (fun vs H Q E h => ?_) (fun f cdv A outer s H vs Q E hr h => ?_)
  · obtain ⟨d, c, ov, off, rfl, _⟩ := h
    rfl
  · obtain ⟨d, c, ov, off, rfl, D, ⟨oa, rfl, ho⟩, l1, l6, k⟩ := h
    obtain ⟨f__law_draw, fd__law_draw, m__law_draw, k__law_draw, b__law_draw, G__law_draw⟩ := ok__law_draw (P := P) (w := w) (base := base) T
    have hr__law_draw : Room 1 _ := hr.mono (by decide)
    obtain ⟨f__law_odd, fd__law_odd, m__law_odd, k__law_odd, b__law_odd, G__law_odd⟩ := ok__law_odd (P := P) (w := w) (base := base) T
    have hr__law_odd : Room 2 _ := hr.mono (by decide)
    refine ⟨_, (pss_cons (ps_set (i := 2) sc__law_spoiled.nd rfl (Or.inl rfl) (pe_call G__law_draw hr__law_draw rfl m__law_draw k__law_draw b__law_draw .nil pass0 (pa_cons (pv 0) (pa_cons pe_int pa_nil))))
      (pss_cons (ps_set (i := 3) sc__law_spoiled.nd rfl (Or.inl rfl) (pe_call G__law_draw hr__law_draw rfl m__law_draw k__law_draw b__law_draw .nil pass0 (pa_cons (pv 0) (pa_cons (pe_callB (id := "len") call_len_seq (by rfl) T.b_len (by decide +kernel) (pa_cons (pv 1) pa_nil)) pa_nil))))
      (pss_cons (ps_set (i := 4) sc__law_spoiled.nd rfl (Or.inl rfl) (pe_callTy (T := "list") call_list_of (by rfl) T.b_list (by decide +kernel) (pa_cons (pv 1) pa_nil)))
      (pss_cons (ps_if (pt_cmpR op_eq (pv 2) pe_int (nomark _))
      (pss_one (ps_ret (pe_call G__law_odd hr__law_odd rfl m__law_odd k__law_odd b__law_odd .nil pass0 (pa_cons (pv 0) pa_nil))))
      pss_nil)
      (pss_cons (ps_if (pt_cmpR op_eq (pv 2) pe_int (nomark _))
      (pss_one (ps_ret (pv 4)))
      pss_nil)
      (pss_cons (ps_if (pt_cmpR op_eq (pv 2) pe_int (nomark _))
      (pss_one (ps_asg (pe_op op_add (pe_ix ix_list (pv 4) (pv 3) (fun _ _ => rfl)) pe_int) (pg_sub (pv 4) (pv 3) set_list)))
      pss_nil)
      (pss_cons (ps_if (pt_cmpR op_eq (pv 2) pe_int (nomark _))
      (pss_one (ps_asg (pe_op op_sub (pe_ix ix_list (pv 4) (pv 3) (fun _ _ => rfl)) pe_int) (pg_sub (pv 4) (pv 3) set_list)))
      pss_nil)
      (pss_cons (ps_if (pt_cmpR op_eq (pv 2) pe_int (nomark _))
      (pss_one (ps_asg (pe_op op_add (pe_ix ix_list (pv 4) (pv 3) (fun _ _ => rfl)) (pe_op op_pow pe_int pe_int)) (pg_sub (pv 4) (pv 3) set_list)))
      pss_nil)
      (pss_cons (ps_if (pt_cmpR op_eq (pv 2) pe_int (nomark _))
      (pss_one (ps_asg (pe_ix ix_list (pe_lst (pa_cons pe_bl (pa_cons pe_bl (pa_cons pe_non pa_nil)))) (pe_call G__law_draw hr__law_draw rfl m__law_draw k__law_draw b__law_draw .nil pass0 (pa_cons (pv 0) (pa_cons pe_int pa_nil))) (fun _ _ => rfl)) (pg_sub (pv 4) (pv 3) set_list)))
      pss_nil)
      (pss_cons (ps_if (pt_cmpR op_eq (pv 2) pe_int (nomark _))
      (pss_one (ps_asg (pe_call G__law_odd hr__law_odd rfl m__law_odd k__law_odd b__law_odd .nil pass0 (pa_cons (pv 0) pa_nil)) (pg_sub (pv 4) (pv 3) set_list)))
      pss_nil)
      (pss_cons (ps_if (pt_cmpR op_eq (pv 2) pe_int (nomark _))
      (pss_one (ps_set (i := 4) sc__law_spoiled.nd rfl (Or.inl rfl) (pe_slice sl_list (pv 4) po_none (po_some (pv 3)))))
      pss_nil)
      (pss_cons (ps_if (pt_cmpR op_eq (pv 2) pe_int (nomark _))
      (pss_one (ps_expr (pe_bm PySem.F.plainAttrs_list PySem.F.slot_list_append PySem.F.type_list_append mt_append (pv 4) (pa_cons (pe_ix ix_list (pv 4) (pv 3) (fun _ _ => rfl)) pa_nil))))
      pss_nil)
      (pss_cons (ps_if (pt_cmpR op_eq (pv 2) pe_int (nomark _))
      (pss_one (ps_setLc (i := 4) (own := [("item", 5)]) (g := gName 5) rfl sc__law_spoiled.nd rfl rfl (sw_true rfl rfl rfl (by decide +kernel)) (pi_list (pv 4)) (blkOk_by (own := [("item", 5)]) (N := ["dice", "offsets", "kind", "where", "items", "item"]) (sc := defScope s__law_spoiled) (by decide +kernel)) (fun _ _ _ _ _ => (pg_name (i := 5) sc__law_spoiled.nd rfl (Or.inl rfl))) (fun _ _ _ _ _ => pts_nil) (fun _ _ _ _ _ => (pe_op op_add (pv 5) pe_int))))
      pss_nil)
      (pss_cons (ps_if (pt_cmpR op_eq (pv 2) pe_int (nomark _))
      (pss_one (ps_asg (pe_call G__law_draw hr__law_draw rfl m__law_draw k__law_draw b__law_draw .nil pass0 (pa_cons (pv 0) (pa_cons pe_int pa_nil))) (pg_sub (pv 4) (pv 3) set_list)))
      pss_nil)
      (pss_one (ps_ret (pe_callTy (T := "tuple") call_tuple_of (by rfl) T.b_tuple (by decide +kernel) (pa_cons (pv 4) pa_nil)))))))))))))))))), ?_⟩
    walk_at "rr"
    refine ⟨d, c, _, rfl, D, by omega, by omega, fun v0 H1 a0 a1 k1 D1 => ?_⟩
    have ho1 := k1.tup D ho
    refine ⟨_, rfl, _, rfl, oa, _, rfl, .inr (SqT.of ho1), ?_⟩
    refine ⟨d, c, _, rfl, D1, by rw [List.length_map]; omega, by rw [List.length_map]; omega, fun v1 H2 b0 b1 k2 D2 => ?_⟩
    rw [List.length_map] at b1
    obtain ⟨wh, rfl⟩ : ∃ j : Nat, v1 = j := ⟨v1.toNat, by omega⟩
    have ho2 := k2.tup D1 ho1
    refine ⟨_, rfl, oa, _, rfl, .inr (SqT.of ho2), fun I nI => ?_⟩
    have nId := D2.ne nI
    have nIc := D2.nc nI
    have k02 := k1.trans k2
    have nIH : H I = none := k02.free nId nI
    have s3 : Same H2 (upd H2 I (.lst (off.map V.int))) := same_new nI
    have hin0 : ∀ {A : Addr → Prop} {H' : Hp}, ∀ x ∈ off.map V.int, Dat A H' x := by
      intro A H' x hx
      obtain ⟨i, _, rfl⟩ := List.mem_map.mp hx
      exact .int i
    have S3 : StJ d c I H (upd H2 I (.lst (off.map V.int))) (off.map V.int) := ⟨upd_same, hin0, k02.trans (same_keep s3), D2.same s3⟩
    generalize upd H2 I (.lst (off.map V.int)) = H3 at *
    have hkv : (off.map V.int)[wh]? = some (.int (off.getD wh 0)) := by rw [List.getElem?_map, getDat 0 (by omega)]; rfl
    have ixI : ixN (off.map V.int).length ((wh : Nat) : Int) = some wh := ixN_nat (by rw [List.length_map]; omega)
    have end_ : ∀ {H' : Hp} {xs : List V}, StJ d c I H H' xs → ∀ T, H' T = none → Q (.ref T) (upd H' T (.tup xs)) := fun {H' xs} S T nT => by
      have s := same_new (o := .tup xs) nT
      exact k _ _ (.tup T xs (S.di.ne nT) upd_same fun x m => ((S.xd x m).same s).mono (fun _ _ _ e => e) fun a ha _ => ha.1) (S.kp.trans (same_keep s)) (S.di.same s)
    have apart : ∀ {x : V} {H' H'' : Hp} {xs : List V}, StJ d c I H H' xs → Dat (fun a => H' a = none) H'' x → Dat (fun a => a ≠ d ∧ a ≠ I) H'' x := fun {x H' H'' xs} S h =>
      h.mono (fun _ _ _ e => e) fun a ha _ => ⟨S.di.ne ha, (fun z => by subst z; rw [S.it] at ha; cases ha)⟩
    have hv : v0 = 0 ∨ v0 = 1 ∨ v0 = 2 ∨ v0 = 3 ∨ v0 = 4 ∨ v0 = 5 ∨ v0 = 6 ∨ v0 = 7 ∨ v0 = 8 ∨ v0 = 9 ∨ v0 = 10 := by omega
    rcases hv with rfl | rfl | rfl | rfl | rfl | rfl | rfl | rfl | rfl | rfl | rfl
    · walk_at "yes"
      refine ⟨_, rfl, d, c, rfl, S3.di, fun v H4 hv k4 D4 => ?_⟩
      exact k v H4 (hv.dat.mono (fun _ _ _ e => e) fun a ha _ => S3.di.ne ha) (S3.kp.trans k4) D4
    · walk_at "no"
      walk_at "yes"
      exact ⟨_, rfl, k _ _ (.lst I _ nId S3.it hin0) S3.kp S3.di⟩
    · walk_at "no"
      walk_at "no"
      walk_at "yes"
      have S3' := S3
      refine ⟨_, rfl, _, rfl, I, _, (wh : Nat), .int (off.getD wh 0), rfl, rfl, SqL.of S3.it, atI_nat hkv, ?_⟩
      refine ⟨_, _, rfl, rfl, ?_⟩
      refine ⟨_, rfl, _, rfl, I, _, _, wh, rfl, rfl, S3'.it, ixI, ?_⟩
      have S4 := S3'.set nId nIc nIH (mem_set_dat (j := wh) S3'.xd (x := .int (off.getD wh 0 + 1)) (.int _))
      walk_at "no"
      walk_at "no"
      walk_at "no"
      walk_at "no"
      walk_at "no"
      walk_at "no"
      walk_at "no"
      walk_at "no"
      refine ⟨_, rfl, I, _, rfl, .inl ⟨SqL.of S4.it, end_ S4⟩⟩
    · walk_at "no"
      walk_at "no"
      walk_at "no"
      walk_at "yes"
      have S3' := S3
      refine ⟨_, rfl, _, rfl, I, _, (wh : Nat), .int (off.getD wh 0), rfl, rfl, SqL.of S3.it, atI_nat hkv, ?_⟩
      refine ⟨_, _, rfl, rfl, ?_⟩
      refine ⟨_, rfl, _, rfl, I, _, _, wh, rfl, rfl, S3'.it, ixI, ?_⟩
      have S4 := S3'.set nId nIc nIH (mem_set_dat (j := wh) S3'.xd (x := .int (off.getD wh 0 - 1)) (.int _))
      walk_at "no"
      walk_at "no"
      walk_at "no"
      walk_at "no"
      walk_at "no"
      walk_at "no"
      walk_at "no"
      refine ⟨_, rfl, I, _, rfl, .inl ⟨SqL.of S4.it, end_ S4⟩⟩
    · walk_at "no"
      walk_at "no"
      walk_at "no"
      walk_at "no"
      walk_at "yes"
      have S3' := S3
      refine ⟨_, rfl, _, rfl, I, _, (wh : Nat), .int (off.getD wh 0), rfl, rfl, SqL.of S3.it, atI_nat hkv, ?_⟩
      walk_at "rr"
      refine ⟨I, _, _, wh, rfl, rfl, S3'.it, ixI, ?_⟩
      have S4 := S3'.set nId nIc nIH (mem_set_dat (j := wh) S3'.xd (x := .int (off.getD wh 0 + 10 ^ 20)) (.int _))
      walk_at "no"
      walk_at "no"
      walk_at "no"
      walk_at "no"
      walk_at "no"
      walk_at "no"
      refine ⟨_, rfl, I, _, rfl, .inl ⟨SqL.of S4.it, end_ S4⟩⟩
    · walk_at "no"
      walk_at "no"
      walk_at "no"
      walk_at "no"
      walk_at "no"
      walk_at "yes"
      refine ⟨(by show 3 ≤ sizeLine; decide), fun p1 n1' => ?_⟩
      have s7 := same_new (o := .lst [.bl true, .bl false, .non]) n1'
      have f1 : (upd H3 p1 (.lst [.bl true, .bl false, .non])) p1 = some (.lst [.bl true, .bl false, .non]) := upd_same
      have np1d := S3.di.ne n1'
      have S5 := S3.keep (same_keep s7) (S3.di.same s7) nId
      generalize upd H3 p1 (.lst [.bl true, .bl false, .non]) = H5 at *
      refine ⟨_, rfl, d, c, _, rfl, S5.di, by omega, by omega, fun v H6 f0 f2 k6 D6 => ?_⟩
      have S3' := S5.keep k6 D6 nId
      obtain ⟨y, hy, hyd⟩ : ∃ y, [V.bl true, .bl false, .non][v.toNat]? = some y ∧ ∀ {A : Addr → Prop} {H : Hp}, Dat A H y := by
        rcases (by omega : v.toNat = 0 ∨ v.toNat = 1 ∨ v.toNat = 2) with e | e | e <;> rw [e] <;> first | exact ⟨_, rfl, .bl _⟩ | exact ⟨_, rfl, .non⟩
      refine ⟨p1, _, v, y, rfl, rfl, SqL.of (k6 _ _ np1d f1), ?_, ?_⟩
      · have := atI_nat hy
        rwa [Int.toNat_of_nonneg f0] at this
      refine ⟨_, rfl, _, rfl, I, _, _, wh, rfl, rfl, S3'.it, ixI, ?_⟩
      have S4 := S3'.set nId nIc nIH (mem_set_dat (j := wh) S3'.xd (x := y) hyd)
      walk_at "no"
      walk_at "no"
      walk_at "no"
      walk_at "no"
      walk_at "no"
      refine ⟨_, rfl, I, _, rfl, .inl ⟨SqL.of S4.it, end_ S4⟩⟩
    · walk_at "no"
      walk_at "no"
      walk_at "no"
      walk_at "no"
      walk_at "no"
      walk_at "no"
      walk_at "yes"
      refine ⟨_, rfl, d, c, rfl, S3.di, fun v H6 hv k6 D6 => ?_⟩
      have S3' := S3.keep k6 D6 nId
      have hvd := apart S3 hv.dat
      refine ⟨_, rfl, _, rfl, I, _, _, wh, rfl, rfl, S3'.it, ixI, ?_⟩
      have S4 := S3'.set nId nIc nIH (mem_set_dat (j := wh) S3'.xd (x := v) hvd)
      walk_at "no"
      walk_at "no"
      walk_at "no"
      walk_at "no"
      refine ⟨_, rfl, I, _, rfl, .inl ⟨SqL.of S4.it, end_ S4⟩⟩
    · walk_at "no"
      walk_at "no"
      walk_at "no"
      walk_at "no"
      walk_at "no"
      walk_at "no"
      walk_at "no"
      walk_at "yes"
      refine ⟨_, rfl, _, rfl, _, rfl, I, _, rfl, SqL.of S3.it, fun p1 n1' => ?_⟩
      have s7 := same_new (o := .lst (cutV (off.map V.int) none (some (wh : Nat)))) n1'
      walk_at "no"
      walk_at "no"
      walk_at "no"
      have S7 := S3.keep (same_keep s7) (S3.di.same s7) nId
      refine ⟨_, rfl, p1, _, rfl, .inl ⟨SqL.of upd_same, fun T nT => ?_⟩⟩
      have s8 := same_new (o := .tup (cutV (off.map V.int) none (some (wh : Nat)))) nT
      exact k _ _ (.tup T _ (S7.di.ne nT) upd_same fun x m => hin0 x (cut_mem m)) (S7.kp.trans (same_keep s8)) (S7.di.same s8)
    · walk_at "no"
      walk_at "no"
      walk_at "no"
      walk_at "no"
      walk_at "no"
      walk_at "no"
      walk_at "no"
      walk_at "no"
      walk_at "yes"
      refine ⟨_, rfl, .inl ⟨rfl, _, SqL.of S3.it⟩, ?_⟩
      refine ⟨_, rfl, _, rfl, I, _, (wh : Nat), .int (off.getD wh 0), rfl, rfl, SqL.of S3.it, atI_nat hkv, ?_⟩
      refine ⟨I, _, _, rfl, rfl, S3.it, ?_, ?_⟩
      · rw [List.length_map]; exact small1000 (by omega)
      have S4 := S3.set nId nIc nIH (ys := off.map V.int ++ [.int (off.getD wh 0)]) fun y m => by
        rcases List.mem_append.mp m with q | q
        · exact hin0 y q
        · rw [List.mem_singleton.mp q]; exact .int _
      walk_at "no"
      walk_at "no"
      refine ⟨_, rfl, I, _, rfl, .inl ⟨SqL.of S4.it, end_ S4⟩⟩
    · walk_at "no"
      walk_at "no"
      walk_at "no"
      walk_at "no"
      walk_at "no"
      walk_at "no"
      walk_at "no"
      walk_at "no"
      walk_at "no"
      walk_at "yes"
      refine ⟨_, rfl, I, rfl, ⟨_, SqL.of S3.it⟩, fun E nE => ?_⟩
      refine lc_list (K := K) (a := I) (xs := off.map V.int) (fun j H5 => H5 E = some (.lst (((off.take j).map fun c => c + 1).map V.int)) ∧ Same H3 H5) ⟨upd_same, same_new nE⟩ (fun j H5 _ h5 => SqL.of (h5.2 _ _ S3.it)) ?_ ?_
      · rintro j x H5 hj ⟨q1, q2⟩
        obtain ⟨y, hy, rfl⟩ := map_at hj
        refine ⟨rfl, ?_⟩
        refine yesT ?_
        refine ⟨_, rfl, _, _, rfl, rfl, ?_⟩
        refine ⟨_, q1, ?_, ?_, same_upd q2 nE⟩
        · rw [List.length_map, List.length_map, List.length_take]; exact small1000 (Nat.le_trans (Nat.min_le_right _ _) (by omega))
        · rw [upd_same, List.take_add_one, hy, List.map_append, List.map_append]; rfl
      · rintro H5 ⟨q1, q2⟩
        rw [List.length_map, List.take_length] at q1
        walk_at "no"
        have S7 := S3.keep (same_keep q2) (S3.di.same q2) nId
        refine ⟨_, rfl, E, _, rfl, .inl ⟨SqL.of q1, fun T nT => ?_⟩⟩
        have s8 := same_new (o := .tup ((off.map fun c => c + 1).map V.int)) nT
        refine k _ _ (.tup T _ (S7.di.ne nT) upd_same fun x m => ?_) (S7.kp.trans (same_keep s8)) (S7.di.same s8)
        obtain ⟨i, _, rfl⟩ := List.mem_map.mp m
        exact .int i
    · walk_at "no"
      walk_at "no"
      walk_at "no"
      walk_at "no"
      walk_at "no"
      walk_at "no"
      walk_at "no"
      walk_at "no"
      walk_at "no"
      walk_at "no"
      walk_at "yes"
      refine ⟨_, rfl, d, c, _, rfl, S3.di, by omega, by omega, fun v H6 f0 f2 k6 D6 => ?_⟩
      have S3' := S3.keep k6 D6 nId
      refine ⟨_, rfl, _, rfl, I, _, _, wh, rfl, rfl, S3'.it, ixI, ?_⟩
      have S4 := S3'.set nId nIc nIH (mem_set_dat (j := wh) S3'.xd (x := .int v) (.int _))
      refine ⟨_, rfl, I, _, rfl, .inl ⟨SqL.of S4.it, end_ S4⟩⟩
end
end Toy

namespace Toy
open PySem PySem.Spec PyProof.Rows L2
local macro_rules | `(tactic| walk_at "hp") => `(tactic| first
  | assumption
  | exact upd_same
  | (refine Eq.trans (upd_ne (by first | assumption | (apply Ne.symm; assumption))) ?_; walk_at "hp"))
local macro_rules | `(tactic| walk_at "side") => `(tactic| first
  | exact .inl ⟨by omega, by omega⟩
  | exact .inr ⟨by omega, by omega⟩
  | exact ⟨by omega, by omega⟩
  | (show _ ≤ _; omega)
  | (show (_ : Int) < _; omega)
  | decide
  | assumption)
local macro_rules | `(tactic| walk_at "r") => `(tactic| first
  | refine ⟨_, rfl, ?_⟩
  | refine ⟨_, _, rfl, rfl, ?_⟩
  | refine ⟨_, _, _, _, rfl, rfl, SqL.of (by walk_at "hp"), rfl, ?_⟩
  | refine ⟨_, _, _, _, rfl, rfl, SqT.of (by walk_at "hp"), rfl, ?_⟩
  | refine ⟨_, _, _, _, rfl, rfl, (by walk_at "hp"), rfl, ?_⟩
  | refine And.intro rfl ?_
  | refine ⟨_, _, rfl, SqT.of (by walk_at "hp"), ?_⟩
  | refine ⟨_, _, rfl, SqL.of (by walk_at "hp"), ?_⟩
  | refine .inl ⟨_, rfl, ?_⟩
  | refine ⟨_, _, rfl, .inl (SqL.of (by walk_at "hp")), ?_⟩
  | refine ⟨_, _, rfl, .inr (SqT.of (by walk_at "hp")), ?_⟩
  | refine ⟨_, _, rfl, .inl ⟨SqL.of (by walk_at "hp"), ?_⟩⟩
  | refine And.intro (.inl ⟨rfl, _, SqL.of (by walk_at "hp")⟩) ?_
  | refine ⟨_, _, _, rfl, rfl, (by walk_at "hp"), ?_⟩
  | refine ⟨_, _, rfl, (by walk_at "hp"), ?_⟩
  | refine And.intro (by walk_at "side") ?_)
local macro_rules | `(tactic| walk_at "rr") => `(tactic| (repeat walk_at "r"))
local macro_rules | `(tactic| walk_at "k") => `(tactic| first
  | refine ite2 (fun _ => ?_) (fun g => absurd rfl g)
  | refine ite2 (fun g => absurd g (by decide)) (fun _ => ?_)
  | refine ite2 (fun _ => ?_) (fun g => absurd (decide_eq_true (by omega)) g)
  | refine ite2 (fun g => absurd (of_decide_eq_true g) (by omega)) (fun _ => ?_)
  | refine ite2 (fun g => (nd_t g (by omega)).elim) (fun _ => ?_)
  | refine ite2 (fun _ => ?_) (fun g => absurd (nd_f g) (by omega)))
local macro_rules | `(tactic| walk_at "rk") => `(tactic| (repeat (first | walk_at "r" | walk_at "k")))
def ToldIs (S : Sys) (v nv : V) (H H' : Hp) (kind : Str) (found : V) : Prop :=
  (OffIs S.n S.ws H v ∧ (∃ z row, nv = .str z ∧ (z, row) ∈ S.rs) ∧ kind = "told" ∧ ∃ t x y, found = .ref t ∧ H' t = some (.tup [x, y])) ∨
  (¬ OffIs S.n S.ws H v ∧ kind = "offsets") ∨ (OffIs S.n S.ws H v ∧ (∀ z, nv = .str z → ¬ z ∈ S.rs.map (·.1)) ∧ kind = "request" ∧ found = nv)
def spToldAfter (K : PySem.W.Frag) (C : Addr) : Sp := fun vs H Q _ => ∃ (p : Addr) (S : Sys) (v nv : V) (n : String), vs = [.ref p, v, nv] ∧ SysOk S ∧ SysAt C H p S ∧ Thg K H v ∧ TyG K H nv n ∧
  ∀ t H' kind found, Same H H' → H' t = some (.tup [.str kind, found]) → ToldIs S v nv H H' kind found → Q (.ref t) H'
section
variable {P : Program} {w : World} {K : PySem.W.Frag} {mg : Str → Option Value} {base : Heap}
theorem ok__law_told_after (T : Top K mg) : Ok P w K mg base 6 "_law_told_after" ["system", "offsets", "name"] (spToldAfter K T.c_System) := by
  refine ok_of T.d__law_told_after sc__law_told_after (fun vs H Q E h => ?_) (fun f cdv A outer s H vs Q E hr h => ?_)
  · obtain ⟨p, S, v, nv, n, rfl, _⟩ := h
    rfl
  · obtain ⟨p, S, v, nv, n, rfl, ok, SA, hT, hn, k⟩ := h
    obtain ⟨f_after_request, fd_after_request, m_after_request, k_after_request, b_after_request, G_after_request⟩ := ok_after_request (P := P) (w := w) (base := base) T
    have hr_after_request : Room 5 _ := hr.mono (by decide)
    refine ⟨_, (pss_cons (ps_set (i := 3) sc__law_told_after.nd rfl (Or.inl rfl) pe_non)
      (pss_cons (ps_set (i := 4) sc__law_told_after.nd rfl (Or.inl rfl) pe_str)
      (pss_cons (ps_try_manyA rfl rfl sc__law_told_after.nd takes0 (fun W pn xe tk _ => (pss_one (ps_set (i := 3) sc__law_told_after.nd rfl (Or.inl rfl) (pe_callS G_after_request hr_after_request rfl m_after_request k_after_request b_after_request (fun σ => passAt tk σ) (pa_cons (pv 0) (pa_cons (pv 1) (pa_cons (pv 2) pa_nil))))))) (HdsA.cons ⟨rfl, by decide, Or.inl T.mg_BadOffsets⟩ (fun a oe cls d pn hz hf => (pss_one (ps_set (i := 4) sc__law_told_after.nd rfl (Or.inl rfl) pe_str))) (HdsA.consA (i := 5) rfl rfl ⟨rfl, by decide, Or.inl T.x_NoRequest.mg⟩ (fun a oe cls d pn hz hf => (pss_cons (ps_set (i := 4) sc__law_told_after.nd rfl (Or.inl rfl) pe_str)
      (pss_one (ps_set (i := 3) sc__law_told_after.nd rfl (Or.inl rfl) (pe_xf T.x_NoRequest.X T.x_NoRequest.no hz hf (pv 5)))))) HdsA.nil)))
      (pss_one (ps_ret (pe_tup (pa_cons (pv 4) (pa_cons (pv 3) pa_nil)))))))), ?_⟩
    refine ⟨_, rfl, _, rfl, _, rfl, p, S, v, nv, n, rfl, ok, SA, hT, hn, ?_, ?_, ?_⟩
    · rintro off z row hv O rfl hm t1 H1 s1 ⟨tv, ht1, _⟩
      refine ⟨_, rfl, _, rfl, (by show 2 ≤ sizeLine; decide), fun t nt => ?_⟩
      exact k t _ _ _ (s1.trans (same_new nt)) upd_same (.inl ⟨⟨off, hv, O⟩, ⟨z, row, rfl, hm⟩, rfl, t1, _, _, rfl, (same_new nt) _ _ ht1⟩)
    · intro hno H1 s1
      refine ⟨true, T.e_BadOffsets_BadOffsets, fun _ a na => ?_, fun q => nomatch q⟩
      refine ⟨_, rfl, _, rfl, (by show 2 ≤ sizeLine; decide), fun t nt => ?_⟩
      exact k t _ _ _ (s1.trans (same_new nt)) upd_same (.inr (.inl ⟨hno, rfl⟩))
    · intro hO hno d H1 s1 nd e
      refine ⟨false, T.e_NoRequest_BadOffsets, fun q => (nomatch q), fun _ => ?_⟩
      refine ⟨true, T.e_NoRequest_NoRequest, fun _ a na => ?_, fun q => nomatch q⟩
      refine ⟨_, rfl, rfl, rfl, d, _, nv, rfl, e, rfl, ?_⟩
      refine ⟨_, rfl, _, rfl, (by show 2 ≤ sizeLine; decide), fun t nt => ?_⟩
      exact k t _ _ _ (s1.trans (same_new nt)) upd_same (.inr (.inr ⟨hO, hno, rfl, rfl⟩))
end
end Toy

namespace Toy
open PySem PySem.Spec PyProof.Rows L2
local macro_rules | `(tactic| walk_at "hp") => `(tactic| first
  | assumption
  | exact upd_same
  | (refine Eq.trans (upd_ne (by first | assumption | (apply Ne.symm; assumption))) ?_; walk_at "hp"))
local macro_rules | `(tactic| walk_at "side") => `(tactic| first
  | exact .inl ⟨by omega, by omega⟩
  | exact .inr ⟨by omega, by omega⟩
  | exact ⟨by omega, by omega⟩
  | (show _ ≤ _; omega)
  | (show (_ : Int) < _; omega)
  | decide
  | assumption)
local macro_rules | `(tactic| walk_at "r") => `(tactic| first
  | refine ⟨_, rfl, ?_⟩
  | refine ⟨_, _, rfl, rfl, ?_⟩
  | refine ⟨_, _, _, _, rfl, rfl, SqL.of (by walk_at "hp"), rfl, ?_⟩
  | refine ⟨_, _, _, _, rfl, rfl, SqT.of (by walk_at "hp"), rfl, ?_⟩
  | refine ⟨_, _, _, _, rfl, rfl, (by walk_at "hp"), rfl, ?_⟩
  | refine And.intro rfl ?_
  | refine ⟨_, _, rfl, SqT.of (by walk_at "hp"), ?_⟩
  | refine ⟨_, _, rfl, SqL.of (by walk_at "hp"), ?_⟩
  | refine .inl ⟨_, rfl, ?_⟩
  | refine ⟨_, _, rfl, .inl (SqL.of (by walk_at "hp")), ?_⟩
  | refine ⟨_, _, rfl, .inr (SqT.of (by walk_at "hp")), ?_⟩
  | refine ⟨_, _, rfl, .inl ⟨SqL.of (by walk_at "hp"), ?_⟩⟩
  | refine And.intro (.inl ⟨rfl, _, SqL.of (by walk_at "hp")⟩) ?_
  | refine ⟨_, _, _, rfl, rfl, (by walk_at "hp"), ?_⟩
  | refine ⟨_, _, rfl, (by walk_at "hp"), ?_⟩
  | refine And.intro (by walk_at "side") ?_)
local macro_rules | `(tactic| walk_at "rr") => `(tactic| (repeat walk_at "r"))
local macro_rules | `(tactic| walk_at "k") => `(tactic| first
  | refine ite2 (fun _ => ?_) (fun g => absurd rfl g)
  | refine ite2 (fun g => absurd g (by decide)) (fun _ => ?_)
  | refine ite2 (fun _ => ?_) (fun g => absurd (decide_eq_true (by omega)) g)
  | refine ite2 (fun g => absurd (of_decide_eq_true g) (by omega)) (fun _ => ?_)
  | refine ite2 (fun g => (nd_t g (by omega)).elim) (fun _ => ?_)
  | refine ite2 (fun _ => ?_) (fun g => absurd (nd_f g) (by omega)))
local macro_rules | `(tactic| walk_at "rk") => `(tactic| (repeat (first | walk_at "r" | walk_at "k")))
theorem lay_row : ∀ r : List Int, PyData.canLayAll0 (r.map PyData.int) = true
  | [] => by simp [PyData.canLayAll0]
  | x :: t => by
    have := lay_row t
    simp [PyData.canLayAll0, PyData.canLay0, this]
theorem lay_rows : ∀ rows : List (List Int), PyData.canLayAll0 (rows.map fun r => PyData.tuple (r.map PyData.int)) = true
  | [] => by simp [PyData.canLayAll0]
  | r :: t => by
    have := lay_rows t
    simp [PyData.canLayAll0, PyData.canLay0, this, lay_row]
theorem dep_row : ∀ r : List Int, PyData.depthAll (r.map PyData.int) ≤ 2
  | [] => by simp [PyData.depthAll]
  | x :: t => by
    have := dep_row t
    simp only [List.map_cons, PyData.depthAll, PyData.depth]
    omega
theorem dep_rows : ∀ rows : List (List Int), PyData.depthAll (rows.map fun r => PyData.tuple (r.map PyData.int)) ≤ 4
  | [] => by simp [PyData.depthAll]
  | r :: t => by
    have h1 := dep_rows t
    have h2 := dep_row r
    simp only [List.map_cons, PyData.depthAll, PyData.depth]
    omega
def rowsD (rows : List (List Int)) : PyData := .tuple (rows.map fun r => PyData.tuple (r.map PyData.int))
theorem rowsD_shaped (rows : List (List Int)) : SeqAt.shaped (rowsD rows) = true := by
  have h2 := dep_rows rows
  have h3 : PyData.depth (rowsD rows) ≤ 64 := by unfold rowsD; simp only [PyData.depth]; omega
  have h4 : PyData.canLay0 (rowsD rows) = true := by unfold rowsD; simp [PyData.canLay0, lay_rows]
  show (PyData.canLay0 (rowsD rows) && decide (PyData.depth (rowsD rows) ≤ 64)) = true
  rw [h4, decide_eq_true h3]; rfl
theorem intT_dp {K : PySem.W.Frag} {H : Hp} {v : V} {r : List Int} (h : IntT H v r) : Dp K H v (.tuple (r.map PyData.int)) := by
  obtain ⟨a, rfl, ha⟩ := h
  refine .tup (SqT.of ha) (dpAll_of (by rw [List.length_map, List.length_map]) fun i x d h1 h2 => ?_)
  obtain ⟨y, hy, rfl⟩ := map_at h1
  rw [List.getElem?_map, hy] at h2
  cases h2
  exact .int y
theorem tupT_dp {K : PySem.W.Frag} {H : Hp} {v : V} {rows : List (List Int)} (h : TupT IntT H v rows) : Dp K H v (rowsD rows) := by
  obtain ⟨a, vs, rfl, ha, hp⟩ := h
  refine .tup (SqT.of ha) (dpAll_of (by rw [List.length_map]; exact prd_len hp) fun i x d h1 h2 => ?_)
  obtain ⟨r, hr, hi⟩ := prd_at1 hp h1
  rw [List.getElem?_map, hr] at h2
  cases h2
  exact intT_dp hi
theorem dct_nodup {H : Hp} {kvs : List (Key × V)} {rs : List (Str × List (Option Int))} (h : DctOf OptT H kvs rs) (nd : (rs.map (·.1)).Nodup) : (kvs.map (·.1)).Nodup := by
  have e : kvs.map (·.1) = (rs.map (·.1)).map (fun z => (Sum.inr z : Key)) := by
    clear nd
    induction h with
    | nil => rfl
    | cons r _ ih => rw [List.map_cons, List.map_cons, List.map_cons, ih, r.1]
  rw [e]
  exact List.Pairwise.map _ (fun a b h e => h (by injection e)) nd
theorem ne_noB {x : Bool} (g : (!decide (V.bl x = V.bl x)) = true) : False := by
  rw [decide_eq_true rfl] at g
  cases g
/-- a system beside itself -/
def SameSys (C : Addr) : Addr → Addr → Hp → Prop := fun a b H => a = b ∧ ∃ S, SysOk S ∧ SysAt C H a S
def spEqS (C : Addr) : Sp := spEq (SameSys C)
/-- things that a name may be: of the built-in kinds, or a system -/
def NmV (K : PySem.W.Frag) (C : Addr) (A : Addr → Prop) (H : Hp) (v : V) : Prop := OddV A H v ∨ ∃ p S, v = .ref p ∧ SysOk S ∧ SysAt C H p S
def spSameN (K : PySem.W.Frag) (C : Addr) : Sp := fun vs H Q _ => ∃ (v : V) (A : Addr → Prop), vs = [v, v] ∧ NmV K C A H v ∧ ∀ H', Same H H' → Q (.bl true) H'
section
variable {P : Program} {w : World} {K : PySem.W.Frag} {mg : Str → Option Value} {base : Heap}
theorem nmV_ty (T : Top K mg) {A : Addr → Prop} {H : Hp} {v : V} (h : NmV K T.c_System A H v) : ∃ n, TyG K H v n := by
  rcases h with h | ⟨p, S, rfl, ok, SA⟩
  · obtain ⟨n, hn⟩ := h.dat.ty
    exact ⟨n, .blt hn⟩
  · obtain ⟨dx, mv, na, wv, q, kvs, hp, _⟩ := SA.ex
    exact ⟨_, .ins hp T.cl_System T.I_System⟩
theorem ok_SystemZ_eqZ (T : Top K mg) : OkM P w K mg base CX0 1 T.c_System "__eq__" ["self", "other"] (spEqS T.c_System) := by
  refine okM_of T.m_System___eq__ sc_SystemZ_eqZ (fun vs H Q E h => ?_) (fun f cdv A outer s H vs Q E hr h => ?_)
  · obtain ⟨a, b, rfl, _⟩ := h
    rfl
  · obtain ⟨a, b, rfl, ⟨rfl, S, ok, SA⟩, k⟩ := h
    have hu64 := hr.units
    obtain ⟨dx, mv, na, wv, q, kvs, hp, h2, h3, h4, hq, hR⟩ := SA.ex
    refine ⟨_, (pss_one (ps_ret (pe_and (pe_callB (id := "isinstance") call_isi (by rfl) T.b_isinstance (by decide +kernel) (pa_cons (pv 1) (pa_cons (pe_glob (v := .ref T.c_System) rfl T.mg_System rfl) pa_nil))) (pe_and (pe_cmpR (op_eqD hu64) (pe_fld (pv 0) rfl) (pe_fld (pv 1) rfl) (nomark _)) (pe_one (pe_cmpR (op_eqV hu64) (pe_fld (pv 0) rfl) (pe_fld (pv 1) rfl) (nomark _))))))), ?_⟩
    refine ⟨_, rfl, _, .ref T.c_System, .ref T.c_System, .ref T.c_System, true, rfl, .own _, .base (.ins hp T.cl_System T.I_System.gives T.I_System.reads T.I_System.takes T.I_System.roots), ?_, ?_⟩
    · unfold PySem.W.kitOne
      rw [if_pos (by simp)]
    refine ⟨_, rfl, ?_⟩
    refine ite2 (fun _ => ?_) (fun g => absurd rfl g)
    refine ⟨_, rfl, a, T.c_System, dx, _, _, rfl, hp, T.cl_System, T.na_System_moves, sfs_moves, _, rfl, a, T.c_System, dx, _, _, rfl, hp, T.cl_System, T.na_System_moves, sfs_moves, rowsD S.rows, rowsD S.rows, tupT_dp h2, tupT_dp h2, rowsD_shaped _, rowsD_shaped _, ?_⟩
    rw [SeqAt.eqv_refl _ (Bool.and_eq_true_iff.mp (rowsD_shaped S.rows)).1]
    refine ⟨_, rfl, ?_⟩
    refine ite2 (fun _ => ?_) (fun g => absurd rfl g)
    refine ⟨_, rfl, a, T.c_System, dx, _, _, rfl, hp, T.cl_System, T.na_System__requests, sfs_requests, _, rfl, a, T.c_System, dx, _, _, rfl, hp, T.cl_System, T.na_System__requests, sfs_requests, ?_⟩
    refine ⟨1, by decide, .inr ⟨q, q, kvs, kvs, rfl, rfl, hq, hq, rfl, fun e he => ?_⟩, k _ L2.Ext.rfl'⟩
    obtain ⟨i, hi⟩ := List.getElem?_of_mem he
    obtain ⟨⟨z, row⟩, hrow, ek, hO⟩ := prd_at1 hR hi
    obtain ⟨u, hu, _⟩ := dct_some hR ok.nd (List.mem_of_getElem? hrow)
    have hv := val_nodup (dct_nodup hR ok.nd) e he
    obtain ⟨b, eb, _⟩ := hO
    exact ⟨e.2, hv, .inr (.inl ⟨b, eb, eb⟩)⟩
theorem ok__law_same (T : Top K mg) : Ok P w K mg base 3 "_law_same" ["told", "due"] (spSameN K T.c_System) := by
  refine ok_of T.d__law_same sc__law_same (fun vs H Q E h => ?_) (fun f cdv A outer s H vs Q E hr h => ?_)
  · obtain ⟨v, A, rfl, _⟩ := h
    rfl
  · obtain ⟨v, A', rfl, hD, k⟩ := h
    have hu64 := hr.units
    have hu1 := Nat.lt_of_succ_lt (hu_of hr)
    obtain ⟨f_eq, fd_eq, M_eq, b_eq, G_eq⟩ := ok_SystemZ_eqZ (P := P) (w := w) (base := base) T
    have hr_eq : Room 1 _ := hr.mono (by decide)
    obtain ⟨nv, hn⟩ := nmV_ty T hD
    refine ⟨_, (pss_cons (ps_if (pt_cmpR op_ne (pe_callB (id := "isinstance") (call_isG (T := "bool") (by simp [six])) (by rfl) T.b_isinstance (by decide +kernel) (pa_cons (pv 0) (pa_cons (pe_bltn (v := .ty "bool") (u := .type "bool") (by rfl) T.b_bool (by decide +kernel) rfl) pa_nil))) (pe_callB (id := "isinstance") (call_isG (T := "bool") (by simp [six])) (by rfl) T.b_isinstance (by decide +kernel) (pa_cons (pv 1) (pa_cons (pe_bltn (v := .ty "bool") (u := .type "bool") (by rfl) T.b_bool (by decide +kernel) rfl) pa_nil))) (nomark _))
      (pss_one (ps_ret pe_bl))
      pss_nil)
      (pss_one (ps_ret (pe_cmpR (op_or (op_eqD hu64) (op_or (op_eq_dict hu1) (op_eqG (rcG_ins (E := E0) G_eq M_eq.at_ M_eq.fn b_eq pass0) hr_eq))) (pv 0) (pv 1) (nomark _))))), ?_⟩
    refine ⟨_, rfl, _, nv, rfl, hn, _, rfl, _, nv, rfl, hn, rfl, _, rfl, ?_⟩
    refine ite2 (fun g => (ne_noB g).elim) (fun _ => ?_)
    refine ⟨_, rfl, _, rfl, ?_⟩
    rcases hD with (⟨dt, h1, h2⟩ | ⟨a, kvs, rfl, h2, h3, h4, h5⟩) | ⟨p, S, rfl, ok, SA⟩
    · refine .inl ⟨dt, dt, h1.dp, h1.dp, h2, h2, ?_⟩
      rw [SeqAt.eqv_refl _ (Bool.and_eq_true_iff.mp h2).1]
      exact k _ (Same.refl _)
    · exact .inr (.inl ⟨a, a, kvs, rfl, rfl, h3, h3, h4, fun p hp => (h5 p hp).1, k _ (Same.refl _)⟩)
    · obtain ⟨dx, mv, na, wv, q, kvs, hp, _⟩ := SA.ex
      exact .inr (.inr ⟨⟨p, p, dx, dx, _, _, rfl, rfl, hp, hp, rfl, S, ok, SA⟩, fun H' e => k H' e⟩)
end
end Toy

namespace Toy
open PySem PySem.Spec PyProof.Rows L2
local macro_rules | `(tactic| walk_at "hp") => `(tactic| first
  | assumption
  | exact upd_same
  | (refine Eq.trans (upd_ne (by first | assumption | (apply Ne.symm; assumption))) ?_; walk_at "hp"))
local macro_rules | `(tactic| walk_at "side") => `(tactic| first
  | exact .inl ⟨by omega, by omega⟩
  | exact .inr ⟨by omega, by omega⟩
  | exact ⟨by omega, by omega⟩
  | (show _ ≤ _; omega)
  | (show (_ : Int) < _; omega)
  | decide
  | assumption)
local macro_rules | `(tactic| walk_at "r") => `(tactic| first
  | refine ⟨_, rfl, ?_⟩
  | refine ⟨_, _, rfl, rfl, ?_⟩
  | refine ⟨_, _, _, _, rfl, rfl, SqL.of (by walk_at "hp"), rfl, ?_⟩
  | refine ⟨_, _, _, _, rfl, rfl, SqT.of (by walk_at "hp"), rfl, ?_⟩
  | refine ⟨_, _, _, _, rfl, rfl, (by walk_at "hp"), rfl, ?_⟩
  | refine And.intro rfl ?_
  | refine ⟨_, _, rfl, SqT.of (by walk_at "hp"), ?_⟩
  | refine ⟨_, _, rfl, SqL.of (by walk_at "hp"), ?_⟩
  | refine .inl ⟨_, rfl, ?_⟩
  | refine ⟨_, _, rfl, .inl (SqL.of (by walk_at "hp")), ?_⟩
  | refine ⟨_, _, rfl, .inr (SqT.of (by walk_at "hp")), ?_⟩
  | refine ⟨_, _, rfl, .inl ⟨SqL.of (by walk_at "hp"), ?_⟩⟩
  | refine And.intro (.inl ⟨rfl, _, SqL.of (by walk_at "hp")⟩) ?_
  | refine ⟨_, _, _, rfl, rfl, (by walk_at "hp"), ?_⟩
  | refine ⟨_, _, rfl, (by walk_at "hp"), ?_⟩
  | refine And.intro (by walk_at "side") ?_)
local macro_rules | `(tactic| walk_at "rr") => `(tactic| (repeat walk_at "r"))
local macro_rules | `(tactic| walk_at "k") => `(tactic| first
  | refine ite2 (fun _ => ?_) (fun g => absurd rfl g)
  | refine ite2 (fun g => absurd g (by decide)) (fun _ => ?_)
  | refine ite2 (fun _ => ?_) (fun g => absurd (decide_eq_true (by omega)) g)
  | refine ite2 (fun g => absurd (of_decide_eq_true g) (by omega)) (fun _ => ?_)
  | refine ite2 (fun g => (nd_t g (by omega)).elim) (fun _ => ?_)
  | refine ite2 (fun _ => ?_) (fun g => absurd (nd_f g) (by omega)))
local macro_rules | `(tactic| walk_at "rk") => `(tactic| (repeat (first | walk_at "r" | walk_at "k")))
theorem ReqAt.keep {c d : Addr} {H H' : Hp} {q : Addr} {n : Int} {rs0 : List (Str × List (Option Int))} (r : ReqAt H q n rs0) (D : Dice c H d) (k : Keep d H H') : ReqAt H' q n rs0 := by
  obtain ⟨kvs, h1, h2⟩ := r.ex
  exact ⟨⟨kvs, k _ _ (D.dK h1) h1, h2.firm OptT.firm (keep_tups k D)⟩, r.nd, r.pr⟩
theorem row_fn : ∀ {rs : List (Str × List (Option Int))} {z : Str} {r r' : List (Option Int)}, (rs.map (·.1)).Nodup → (z, r) ∈ rs → (z, r') ∈ rs → r = r'
  | q :: t, z, r, r', nd, h, h' => by
    rw [List.map_cons, List.nodup_cons] at nd
    rcases List.mem_cons.mp h with e | m
    · rcases List.mem_cons.mp h' with e' | m'
      · have := e.trans e'.symm; cases this; rfl
      · exact absurd (List.mem_map.mpr ⟨_, m', by rw [← e]⟩) nd.1
    · rcases List.mem_cons.mp h' with e' | m'
      · exact absurd (List.mem_map.mpr ⟨_, m, by rw [← e']⟩) nd.1
      · exact row_fn nd.2 m m'
theorem intT_fn {H : Hp} {v : V} {xs ys : List Int} (h : IntT H v xs) (g : IntT H v ys) : xs = ys := by
  obtain ⟨a, rfl, ha⟩ := h
  obtain ⟨b, e, hb⟩ := g
  cases e
  rw [ha] at hb
  injection hb with hb
  injection hb with hb
  exact map_int_inj hb
theorem thg_ints {K : PySem.W.Frag} {H : Hp} {v : V} {xs : List Int} (h : IntT H v xs) : Thg K H v := by
  obtain ⟨a, rfl, ha⟩ := h
  refine ⟨⟨"tuple", .blt (ty_tup ha)⟩, fun b ys e hb y hy => ?_⟩
  cases e
  rw [ha] at hb
  cases hb
  obtain ⟨i, _, rfl⟩ := List.mem_map.mp hy
  exact ⟨"int", rfl⟩
theorem thg_dat {K : PySem.W.Frag} {A : Addr → Prop} {H : Hp} {v : V} (h : Dat A H v) : Thg K H v := by
  obtain ⟨n, hn⟩ := h.ty
  exact ⟨⟨n, .blt hn⟩, fun a xs e ha x hx => by subst e; exact (h.item (.inl ha) hx).ty⟩
def lD (off : List Int) : PyData := .list (off.map PyData.int)
theorem lD_shaped (off : List Int) : SeqAt.shaped (lD off) = true := by
  have h2 := dep_row off
  have h3 : PyData.depth (lD off) ≤ 64 := by unfold lD; simp only [PyData.depth]; omega
  have h4 : PyData.canLay0 (lD off) = true := by unfold lD; simp [PyData.canLay0, lay_row]
  show (PyData.canLay0 (lD off) && decide (PyData.depth (lD off) ≤ 64)) = true
  rw [h4, decide_eq_true h3]; rfl
theorem lD_dp {K : PySem.W.Frag} {H : Hp} {a : Addr} {off : List Int} (h : H a = some (.lst (off.map V.int))) : Dp K H (.ref a) (lD off) := by
  refine .lst (SqL.of h) (dpAll_of (by rw [List.length_map, List.length_map]) fun i x d h1 h2 => ?_)
  obtain ⟨y, hy, rfl⟩ := map_at h1
  rw [List.getElem?_map, hy] at h2
  cases h2
  exact .int y
/-- a system with its moves and requests -/
structure SysEx (C d q x l qq : Addr) (mv : V) (kvs : List (Key × V)) (zs : List Str) (rs0 : List (Str × List (Option Int))) (S : Sys) (H : Hp) : Prop where
  ok : SysOk S
  sys : SysAtQ C H x S qq
  mv : TupT IntT H mv S.rows
  rq : ReqAt H q S.n rs0
  mem : ∀ y, y ∈ rs0 ↔ y ∈ S.rs
  nm : H l = some (.lst (zs.map V.str))
  nl : l ≠ d
  key : rs0.map (·.1) = zs
  z1 : 1 ≤ zs.length
  z3 : zs.length ≤ 5
  low : ∀ z ∈ zs, Name 8 z
theorem SysEx.keep {C c d q x l qq : Addr} {mv : V} {kvs : List (Key × V)} {zs : List Str} {rs0 : List (Str × List (Option Int))} {S : Sys} {H H' : Hp} (s : SysEx C d q x l qq mv kvs zs rs0 S H) (D : Dice c H d) (k : Keep d H H') : SysEx C d q x l qq mv kvs zs rs0 S H' :=
  ⟨s.ok, s.sys.keep D k, TupT.firm IntT.firm _ _ _ _ (keep_tups k D) s.mv, s.rq.keep D k, s.mem, k _ _ s.nl s.nm, s.nl, s.key, s.z1, s.z3, s.low⟩
theorem SysEx.row {C d q x l qq : Addr} {mv : V} {kvs : List (Key × V)} {zs : List Str} {rs0 : List (Str × List (Option Int))} {S : Sys} {H : Hp} (s : SysEx C d q x l qq mv kvs zs rs0 S H) {z : Str} (h : z ∈ zs) : ∃ row, (z, row) ∈ rs0 := by
  rw [← s.key] at h
  obtain ⟨⟨z', row⟩, hm, rfl⟩ := List.mem_map.mp h
  exact ⟨row, hm⟩
def spFollow : Sp := fun vs H Q _ => ∃ (d c : Addr), vs = [.ref d] ∧ Dice c H d ∧ ∀ H', Keep d H H' → Dice c H' d → Q (.bl true) H'
section
variable {P : Program} {w : World} {K : PySem.W.Frag} {mg : Str → Option Value} {base : Heap}
theorem ok__law_offsets_follow (T : Top K mg) : Ok P w K mg base 9 "_law_offsets_follow" ["dice"] spFollow := by
  refine ok_of T.d__law_offsets_follow sc__law_offsets_follow (fun vs H Q E h => ?_) (fun f cdv A outer s H vs Q E hr h => ?_)
  · obtain ⟨d, c, rfl, _⟩ := h
    rfl
  · obtain ⟨d, c, rfl, D0, k⟩ := h
    obtain ⟨f__law_draw, fd__law_draw, m__law_draw, k__law_draw, b__law_draw, G__law_draw⟩ := ok__law_draw (P := P) (w := w) (base := base) T
    have hr__law_draw : Room 1 _ := hr.mono (by decide)
    obtain ⟨f__law_moves, fd__law_moves, m__law_moves, k__law_moves, b__law_moves, G__law_moves⟩ := ok__law_moves (P := P) (w := w) (base := base) T
    have hr__law_moves : Room 2 _ := hr.mono (by decide)
    obtain ⟨f__law_names, fd__law_names, m__law_names, k__law_names, b__law_names, G__law_names⟩ := ok__law_names (P := P) (w := w) (base := base) T
    have hr__law_names : Room 3 _ := hr.mono (by decide)
    obtain ⟨f__law_requests, fd__law_requests, m__law_requests, k__law_requests, b__law_requests, G__law_requests⟩ := ok__law_requests (P := P) (w := w) (base := base) T
    have hr__law_requests : Room 3 _ := hr.mono (by decide)
    obtain ⟨f_System, fd_System, m_System, M_System, b_System, G_System⟩ := ok_SystemZ_initZ (P := P) (w := w) (base := base) T
    have hr_System : Room 8 _ := hr.mono (by decide)
    obtain ⟨f__law_ways, fd__law_ways, m__law_ways, k__law_ways, b__law_ways, G__law_ways⟩ := ok__law_ways (P := P) (w := w) (base := base) T
    have hr__law_ways : Room 1 _ := hr.mono (by decide)
    obtain ⟨f_first_offsets, fd_first_offsets, m_first_offsets, k_first_offsets, b_first_offsets, G_first_offsets⟩ := ok_first_offsets (P := P) (w := w) (base := base) T
    have hr_first_offsets : Room 1 _ := hr.mono (by decide)
    obtain ⟨f__law_right, fd__law_right, m__law_right, k__law_right, b__law_right, G__law_right⟩ := ok__law_right (P := P) (w := w) (base := base) T
    have hr__law_right : Room 2 _ := hr.mono (by decide)
    obtain ⟨f_after_request, fd_after_request, m_after_request, k_after_request, b_after_request, G_after_request⟩ := ok_after_request (P := P) (w := w) (base := base) T
    have hr_after_request : Room 5 _ := hr.mono (by decide)
    obtain ⟨f__law_offsets, fd__law_offsets, m__law_offsets, k__law_offsets, b__law_offsets, G__law_offsets⟩ := ok__law_offsets (P := P) (w := w) (base := base) T
    have hr__law_offsets : Room 2 _ := hr.mono (by decide)
    obtain ⟨f__law_is_integer, fd__law_is_integer, m__law_is_integer, k__law_is_integer, b__law_is_integer, G__law_is_integer⟩ := ok__law_is_integer (P := P) (w := w) (base := base) T
    have hr__law_is_integer : Room 1 _ := hr.mono (by decide)
    have hu := hu_of hr
    have hu64 := hr.units
    refine ⟨_, (pss_cons (ps_set (i := 1) sc__law_offsets_follow.nd rfl (Or.inl rfl) (pe_ix ix_list (pe_lst (pa_cons pe_int (pa_cons (pe_op op_pow pe_int pe_int) pa_nil))) (pe_call G__law_draw hr__law_draw rfl m__law_draw k__law_draw b__law_draw .nil pass0 (pa_cons (pv 0) (pa_cons pe_int pa_nil))) (fun _ _ => rfl)))
      (pss_cons (ps_set (i := 2) sc__law_offsets_follow.nd rfl (Or.inl rfl) (pe_op op_add pe_int (pe_call G__law_draw hr__law_draw rfl m__law_draw k__law_draw b__law_draw .nil pass0 (pa_cons (pv 0) (pa_cons pe_int pa_nil)))))
      (pss_cons (ps_set (i := 3) sc__law_offsets_follow.nd rfl (Or.inl rfl) (pe_call G__law_moves hr__law_moves rfl m__law_moves k__law_moves b__law_moves .nil pass0 (pa_cons (pv 0) (pa_cons (pv 2) (pa_cons pe_int pa_nil)))))
      (pss_cons (ps_set (i := 4) sc__law_offsets_follow.nd rfl (Or.inl rfl) (pe_call G__law_names hr__law_names rfl m__law_names k__law_names b__law_names .nil pass0 (pa_cons (pv 0) (pa_cons (pe_op op_add pe_int (pe_call G__law_draw hr__law_draw rfl m__law_draw k__law_draw b__law_draw .nil pass0 (pa_cons (pv 0) (pa_cons pe_int pa_nil)))) (pa_cons pe_int pa_nil)))))
      (pss_cons (ps_set (i := 5) sc__law_offsets_follow.nd rfl (Or.inl rfl) (pe_call G__law_requests hr__law_requests rfl m__law_requests k__law_requests b__law_requests .nil pass0 (pa_cons (pv 0) (pa_cons (pv 4) (pa_cons (pv 2) (pa_cons pe_int pa_nil))))))
      (pss_cons (ps_set (i := 6) sc__law_offsets_follow.nd rfl (Or.inl rfl) (pe_make M_System G_System hr_System rfl m_System b_System .nil pass0 (pa_cons (pv 3) (pa_cons (pe_callTy (T := "dict") call_dictD (by rfl) T.b_dict (by decide +kernel) (pa_cons (pv 5) pa_nil)) pa_nil))))
      (pss_cons (ps_set (i := 7) sc__law_offsets_follow.nd rfl (Or.inl rfl) (pe_call G__law_ways hr__law_ways rfl m__law_ways k__law_ways b__law_ways .nil pass0 (pa_cons (pv 3) pa_nil)))
      (pss_cons (ps_set (i := 8) sc__law_offsets_follow.nd rfl (Or.inl rfl) (pe_call G_first_offsets hr_first_offsets rfl m_first_offsets k_first_offsets b_first_offsets .nil pass0 (pa_cons (pv 6) pa_nil)))
      (pss_cons (ps_if (PW.pt (pw_or (pt_not (pt_val (pe_callB (id := "isinstance") (call_isN (T := "tuple")) (by rfl) T.b_isinstance (by decide +kernel) (pa_cons (pv 8) (pa_cons (pe_bltn (v := .ty "tuple") (u := .type "tuple") (by rfl) T.b_tuple (by decide +kernel) rfl) pa_nil))))) (pw_or1 (pt_cmpR (op_neD hu64) (pe_callTy (T := "list") call_list_of (by rfl) T.b_list (by decide +kernel) (pa_cons (pv 8) pa_nil)) (pe_ix ix_list (pv 7) pe_int (fun _ _ => rfl)) (nomark _)))))
      (pss_one (ps_ret pe_bl))
      pss_nil)
      (pss_cons (ps_if (pt_not (pt_val (pe_call G__law_right hr__law_right rfl m__law_right k__law_right b__law_right .nil pass0 (pa_cons (pv 3) (pa_cons (pv 8) (pa_cons (pe_dget hu (pv 5) (pe_ix ix_list (pv 4) pe_int (fun _ _ => rfl)) (fun _ _ => rfl)) (pa_cons (pe_call G_after_request hr_after_request rfl m_after_request k_after_request b_after_request .nil passL (pa_cons (pv 6) (pa_cons (pv 8) (pa_cons (pe_ix ix_list (pv 4) pe_int (fun _ _ => rfl)) pa_nil)))) pa_nil)))))))
      (pss_one (ps_ret pe_bl))
      pss_nil)
      (pss_cons (ps_set (i := 9) sc__law_offsets_follow.nd rfl (Or.inl rfl) (pe_call G__law_offsets hr__law_offsets rfl m__law_offsets k__law_offsets b__law_offsets .nil pass0 (pa_cons (pv 0) (pa_cons (pv 7) (pa_cons (pv 1) pa_nil)))))
      (pss_cons (ps_for PassesOwn.never rfl (pi_list (pv 4)) (pg_name (i := 10) sc__law_offsets_follow.nd rfl (Or.inl rfl))
      (pss_one (ps_if (pt_not (pt_val (pe_call G__law_right hr__law_right rfl m__law_right k__law_right b__law_right .nil pass0 (pa_cons (pv 3) (pa_cons (pv 9) (pa_cons (pe_dget hu (pv 5) (pv 10) (fun _ _ => rfl)) (pa_cons (pe_call G_after_request hr_after_request rfl m_after_request k_after_request b_after_request .nil passL (pa_cons (pv 6) (pa_cons (pv 9) (pa_cons (pv 10) pa_nil)))) pa_nil)))))))
      (pss_one (ps_ret pe_bl))
      pss_nil)))
      (pss_one (ps_ret (pe_cmpR op_eq (pe_callB (id := "len") call_len_seq (by rfl) T.b_len (by decide +kernel) (pa_cons (pe_lc (own := [("offset", 11)]) (g := gName 11) rfl sc__law_offsets_follow.nd (pi_tup (pv 8)) (blkOk_by (own := [("offset", 11)]) (N := ["dice", "most", "posts", "moves", "names", "requests", "system", "ways", "first", "offsets", "name", "offset"]) (sc := defScope s__law_offsets_follow) (by decide +kernel)) (fun _ _ _ _ _ => (pg_name (i := 11) sc__law_offsets_follow.nd rfl (Or.inl rfl))) (fun _ _ _ _ _ => (pts_one (pt_val (pe_call G__law_is_integer hr__law_is_integer rfl m__law_is_integer k__law_is_integer b__law_is_integer .nil pass0 (pa_cons (pv 11) pa_nil))))) (fun _ _ _ _ _ => (pv 11))) pa_nil)) (pv 2) (nomark _)))))))))))))))), ?_⟩
    walk_at "rr"
    intro p0 np0
    dsimp only
    have f0 : (upd H p0 (.lst [.int 12, .int (10 ^ Int.toNat 20)])) p0 = some (.lst [.int 12, .int (10 ^ Int.toNat 20)]) := upd_same
    have s0 := same_new (o := .lst [.int 12, .int (10 ^ Int.toNat 20)]) np0
    have D0' := D0.same s0
    have np0d := D0.ne np0
    generalize upd H p0 (.lst [.int 12, .int (10 ^ Int.toNat 20)]) = H0 at *
    refine ⟨_, rfl, d, c, _, rfl, D0', by omega, by omega, fun v0 Hz c0 c1 kz0 Dz => ?_⟩
    have kz := (same_keep (d := d) s0).trans kz0
    obtain ⟨most, hmost, m0, m1⟩ : ∃ most : Int, [V.int 12, .int (10 ^ Int.toNat 20)][v0.toNat]? = some (.int most) ∧ 0 ≤ most ∧ most ≤ 10 ^ 20 := by
      rcases (by omega : v0.toNat = 0 ∨ v0.toNat = 1) with e | e
      · exact ⟨12, by rw [e]; rfl, by omega, by decide⟩
      · exact ⟨10 ^ Int.toNat 20, by rw [e]; rfl, by decide, by decide⟩
    refine ⟨p0, _, v0, .int most, rfl, rfl, SqL.of (kz0 _ _ np0d f0), ?_, ?_⟩
    · have := atI_nat hmost
      rwa [Int.toNat_of_nonneg c0] at this
    walk_at "rr"
    refine ⟨d, c, _, rfl, Dz, by omega, by omega, fun v1 H1 a0 a1 k1 D1 => ?_⟩
    walk_at "rr"
    refine ⟨d, c, _, 9, rfl, D1, by omega, by omega, by omega, by omega, fun mv rows H2 hmv sq k2 D2 => ?_⟩
    walk_at "rr"
    refine ⟨d, c, _, rfl, D2, by omega, by omega, fun v2 H3 b0 b1 k3 D3 => ?_⟩
    walk_at "rr"
    refine ⟨d, c, _, 8, rfl, D3, by omega, by omega, by omega, by omega, fun l zs H4 nl4 hl nd1 z1 z2 hN k4 D4 => ?_⟩
    have nld := D3.ne nl4
    walk_at "rr"
    refine ⟨d, c, l, zs, _, 9, rfl, D4, hl, by omega, nld, nd1, by omega, by omega, by omega, by omega, fun q kvs rs0 H5 nq hq hRq hkeys hpr k5 D5 => ?_⟩
    have hl5 := k5 _ _ nld hl
    have nqd : q ≠ d := D4.ne nq
    have hmv5 : TupT IntT H5 mv rows := TupT.firm IntT.firm _ _ _ _ (fun e xs q => k5.tup D4 (k4.tup D3 (k3.tup D2 q))) hmv
    have hRq5 : ReqAt H5 q (1 + v1) rs0 := ⟨⟨kvs, hq, hRq⟩, by rw [hkeys]; exact nd1, hpr⟩
    have k05 := (((kz.trans k1).trans k2).trans (k3.trans k4)).trans k5
    have n1 : 1 ≤ 1 + v1 := by omega
    have n6 : 1 + v1 ≤ 6 := by omega
    refine ⟨_, rfl, _, rfl, q, kvs, rfl, .inl hq, fun p2 np2 x dx nx ndx nex => ?_⟩
    have s8 : Same H5 (upd H5 p2 (.dK kvs)) := same_new np2
    have s9 : Same (upd H5 p2 (.dK kvs)) (upd (upd (upd H5 p2 (.dK kvs)) dx (.own x)) x (.ins T.c_System dx [])) := fun b o e => by
      rw [upd_ne (ne_of_none e nx), upd_ne (ne_of_none e ndx)]
      exact e
    have s89 := s8.trans s9
    have hzl : rs0.length = zs.length := by rw [← hkeys, List.length_map]
    refine ⟨x, dx, mv, p2, rows, kvs, rs0, _, rfl, upd_same, TupT.firm IntT.firm _ _ _ _ (same_tups s89) hmv5, sq, by omega, by omega, s9 _ _ upd_same, hRq.firm OptT.firm (same_tups s89), hRq5.nd, by omega, by omega, fun y hy => ⟨hpr y hy, hN y.1 (by rw [← hkeys]; exact List.mem_map.mpr ⟨y, hy, rfl⟩)⟩, fun S H6 qq ok eS eR eP SQ6 hne kp => ⟨rfl, ?_⟩⟩
    have s6 : Same H5 H6 := fun b o e => kp b o (ne_of_none (s8 _ _ e) nx) (s89 b o e)
    have D6 := D5.same s6
    have k06 := k05.trans (same_keep s6)
    subst eR
    have eS' : 1 + v1 = S.n := eS.symm
    rw [eS'] at hRq5 sq
    have X6 : SysEx T.c_System d q x l qq mv kvs zs rs0 S H6 := ⟨ok, SQ6, TupT.firm IntT.firm _ _ _ _ (same_tups s6) hmv5, hRq5.same s6, fun y => eP.mem_iff.symm, s6 _ _ hl5, nld, hkeys, by omega, by omega, hN⟩
    clear SQ6 hne kp hRq5 hmv5 s89 s9 s8 hl5 hl hmv hRq
    refine ⟨_, rfl, mv, S.rows, S.n, 9, rfl, X6.mv, sq, ok.n1, by have := ok.n6; omega, fun W M H7 s7 hM hlst => ?_⟩
    have D7 := D6.same s7
    have X7 := X6.keep D6 (same_keep s7)
    have k07 := k06.trans (same_keep s7)
    have hMw : ∀ i j, i < S.n.toNat → j < S.n.toNat → M i j = mat S.ws i j := fun i j hi hj => hlst.uniq ok.wy.least hi hj
    have nWd : W ≠ d := by
      obtain ⟨was, w1, w2, w3⟩ := hM.ex
      intro z; subst z
      obtain ⟨cells, i', b', s', t', e, _⟩ := D7.ex
      rw [w1] at e
      injection e with e
      injection e with e
      match was, e with
      | [], e => cases e
      | [_], e => cases e
      | _ :: _ :: _, e => cases e
    have hn1 := ok.n1
    have hn6 := ok.n6
    refine ⟨_, rfl, x, S, rfl, ok, X7.sys.at, fun fv off hf hol hfe => ?_⟩
    have O1 : OffOk S.n.toNat S.ws off := OffOk.first ok.met (by omega) hol hfe
    obtain ⟨fa, rfl, hfa⟩ := id hf
    refine ⟨_, rfl, _, "tuple", _, rfl, ty_tup hfa, kit7 (ty_tup hfa) (T := "tuple") (by simp), _, rfl, ?_⟩
    refine ite2 (fun g => absurd g (by decide)) (fun _ => ?_)
    obtain ⟨was, w1, w2, w3⟩ := hM.ex
    obtain ⟨w0, hw0⟩ : ∃ b, was[0]? = some b := ⟨_, List.getElem?_eq_getElem (by omega)⟩
    have hoff : off = (List.range S.n.toNat).map (M 0) := by
      apply List.ext_getElem?
      intro b
      by_cases hb : b < S.n.toNat
      · have h1 := hfe b hb
        rw [List.getD_eq_getElem?_getD, List.getElem?_eq_getElem (by omega)] at h1
        rw [List.getElem?_eq_getElem (by omega), List.getElem?_map, List.getElem?_range hb]
        show some _ = some _
        rw [hMw 0 b (by omega) hb]
        exact congrArg some h1
      · rw [List.getElem?_eq_none (by omega), List.getElem?_eq_none (by rw [List.length_map, List.length_range]; omega)]
    refine ⟨_, rfl, fa, _, rfl, .inr (SqT.of hfa), fun t1 nt1 => ?_⟩
    have st1 := same_new (o := .lst (off.map V.int)) nt1
    have ht1 : (upd H7 t1 (.lst (off.map V.int))) t1 = some (.lst (off.map V.int)) := upd_same
    generalize upd H7 t1 (.lst (off.map V.int)) = H8 at *
    refine ⟨_, rfl, W, _, 0, .ref w0, rfl, rfl, SqL.of (st1 _ _ w1), atI_nat (by rw [List.getElem?_map, hw0]; rfl), ?_⟩
    have hrow0 : H8 w0 = some (.lst (off.map V.int)) := by rw [hoff, ← rowV_ints]; exact st1 _ _ (w3 0 w0 hw0)
    refine ⟨lD off, lD off, lD_dp ht1, lD_dp hrow0, lD_shaped _, lD_shaped _, _, rfl, ?_⟩
    rw [SeqAt.eqv_refl _ (Bool.and_eq_true_iff.mp (lD_shaped off)).1]
    refine ite2 (fun g => nomatch g) (fun _ => ?_)
    have X8 := X7.keep D7 (same_keep st1)
    have D8 := D7.same st1
    have hfa8 := st1 _ _ hfa
    obtain ⟨z0, hz0⟩ : ∃ z, zs[0]? = some z := ⟨_, List.getElem?_eq_getElem (by have := X8.z1; omega)⟩
    have hz0' : (zs.map V.str)[0]? = some (.str z0) := by rw [List.getElem?_map, hz0]; rfl
    obtain ⟨row, hm⟩ := X8.row (List.mem_of_getElem? hz0)
    obtain ⟨pa, hg, hpa⟩ := X8.rq.get hm
    refine ⟨_, rfl, _, rfl, _, rfl, _, rfl, l, _, 0, .str z0, rfl, rfl, SqL.of X8.nm, atI_nat hz0', q, .ref pa, rfl, hg, _, rfl, _, rfl, _, rfl, l, _, 0, .str z0, rfl, rfl, SqL.of X8.nm, atI_nat hz0', ?_⟩
    refine ⟨x, S, .ref fa, .str z0, "str", rfl, ok, X8.sys.at, thg_ints ⟨fa, rfl, hfa8⟩, .blt rfl, ?_, fun hno => absurd ⟨off, ⟨fa, rfl, hfa8⟩, O1⟩ hno, fun _ hno => absurd (List.mem_map.mpr ⟨_, (X8.mem _).mp hm, rfl⟩) (hno z0 rfl)⟩
    rintro off' z row' hv' O' ez hm' t H9 s9 ⟨tv, ht, htv⟩
    obtain rfl := intT_fn hv' ⟨fa, rfl, hfa8⟩
    cases ez
    obtain rfl := row_fn ok.nd hm' ((X8.mem _).mp hm)
    have X9 := X8.keep D8 (same_keep s9)
    have D9 := D8.same s9
    have hpr := X9.rq.pr _ hm
    refine ⟨mv, .ref fa, .ref pa, tv, t, S.rows, S.n, _, off', _, row', S.ws, rfl, X9.mv, sq, hn1, hn6, ⟨fa, rfl, s9 _ _ hfa8⟩, hol, ⟨pa, rfl, s9 _ _ hpa⟩, hpr.len, hpr.some, ok.wy.least, rfl, rfl, ht, htv, fun H10 s10 => ⟨_, rfl, ?_⟩⟩
    refine ite2 (fun g => nomatch g) (fun _ => ?_)
    have X10 := X9.keep D9 (same_keep s10)
    have D10 := D9.same s10
    have s710 := (st1.trans s9).trans s10
    have hM10 : LM H10 W S.n.toNat M := LM.same ⟨was, w1, w2, w3⟩ s710
    refine ⟨_, rfl, _, rfl, _, rfl, d, c, W, M, S.n, S.ws, most, rfl, D10, nWd, hM10, hMw, ok.met, hn1, hn6, m0, m1, fun ov off2 H11 k11 D11 hov O2 => ?_⟩
    have X11 := X10.keep D10 k11
    have hfa11 := k11.tup D10 (s710 _ _ hfa)
    refine ⟨_, rfl, l, rfl, ⟨_, SqL.of X11.nm⟩, ?_⟩
    refine for_list (K := K) (a := l) (xs := zs.map V.str) (fun j σ' H' => ∃ o10 : Option V, σ' = [some (.ref d), some (.int most), some (.int (1 + v1)), some mv, some (.ref l), some (.ref q), some (.ref x), some (.ref W), some (.ref fa), some ov, o10, none] ∧ Same H11 H') ⟨none, rfl, Same.refl _⟩ (fun j σ' H' _ ⟨_, _, h⟩ => SqL.of (h _ _ X11.nm)) ?_ ?_
    · rintro j y σ' H12 hj ⟨o10, rfl, s12⟩
      obtain ⟨z1', hz1, rfl⟩ := map_at hj
      have X12 := X11.keep D11 (same_keep s12)
      have D12 := D11.same s12
      have hov12 : IntT H12 ov off2 := IntT.firm _ _ _ _ (same_tups s12) hov
      obtain ⟨row2, hm2⟩ := X12.row (List.mem_of_getElem? hz1)
      obtain ⟨pb, hg2, hpb⟩ := X12.rq.get hm2
      refine ⟨_, rfl, _, rfl, _, rfl, _, rfl, q, .ref pb, rfl, hg2, _, rfl, _, rfl, _, rfl, ?_⟩
      refine ⟨x, S, ov, .str z1', "str", rfl, ok, X12.sys.at, thg_ints hov12, .blt rfl, ?_, fun hno => absurd ⟨off2, hov12, O2⟩ hno, fun _ hno => absurd (List.mem_map.mpr ⟨_, (X12.mem _).mp hm2, rfl⟩) (hno z1' rfl)⟩
      rintro off3 z row3 hv3 O3 ez hm3 t3 H13 s13 ⟨tv3, ht3, htv3⟩
      obtain rfl := intT_fn hv3 hov12
      cases ez
      obtain rfl := row_fn ok.nd hm3 ((X12.mem _).mp hm2)
      have X13 := X12.keep D12 (same_keep s13)
      have hpr2 := X13.rq.pr _ hm2
      refine ⟨mv, ov, .ref pb, tv3, t3, S.rows, S.n, _, off3, _, row3, S.ws, rfl, X13.mv, sq, hn1, hn6, IntT.firm _ _ _ _ (same_tups s13) hov12, O3.len, ⟨pb, rfl, s13 _ _ hpb⟩, hpr2.len, hpr2.some, ok.wy.least, rfl, rfl, ht3, htv3, fun H14 s14 => ⟨_, rfl, ?_⟩⟩
      refine ite2 (fun g => nomatch g) (fun _ => ?_)
      exact ⟨_, rfl, (s12.trans s13).trans s14⟩
    · rintro σ' H12 ⟨o10, rfl, s12⟩
      have hfa12 := s12 _ _ hfa11
      refine ⟨_, rfl, fa, rfl, ⟨_, SqT.of hfa12⟩, fun E nE => ?_⟩
      refine lc_tup (K := K) (a := fa) (xs := off'.map V.int) (fun j H' => H' E = some (.lst ((off'.take j).map V.int)) ∧ Same H12 H') ⟨upd_same, same_new nE⟩ (fun j H' _ h => SqT.of (h.2 _ _ hfa12)) ?_ ?_
      · rintro j y H13 hj ⟨q1, q2⟩
        obtain ⟨u, hu', rfl⟩ := map_at hj
        refine ⟨rfl, ?_⟩
        refine ⟨_, rfl, _, "int", rfl, rfl, _, rfl, ?_⟩
        refine ite2 (fun _ => ?_) (fun g => absurd rfl g)
        refine ⟨_, rfl, _, q1, ?_, ?_, same_upd q2 nE⟩
        · rw [List.length_map, List.length_take]; exact small1000 (Nat.le_trans (Nat.min_le_right _ _) (by omega))
        · rw [upd_same, List.take_add_one, hu', List.map_append]; rfl
      · rintro H13 ⟨q1, q2⟩
        rw [List.length_map, List.take_length] at q1
        refine ⟨E, _, rfl, .inl (SqL.of q1), _, rfl, rfl, ?_⟩
        have el : V.int ((off'.map V.int).length : Nat) = V.int (1 + v1) := by rw [List.length_map]; congr 1; omega
        rw [decide_eq_true el]
        have sE := s12.trans q2
        exact k _ ((((k07.trans (same_keep s710)).trans k11)).trans (same_keep sE)) (D11.same sE)
end
end Toy

namespace Toy
open PySem PySem.Spec PyProof.Rows L2
local macro_rules | `(tactic| walk_at "hp") => `(tactic| first
  | assumption
  | exact upd_same
  | (refine Eq.trans (upd_ne (by first | assumption | (apply Ne.symm; assumption))) ?_; walk_at "hp"))
local macro_rules | `(tactic| walk_at "side") => `(tactic| first
  | exact .inl ⟨by omega, by omega⟩
  | exact .inr ⟨by omega, by omega⟩
  | exact ⟨by omega, by omega⟩
  | (show _ ≤ _; omega)
  | (show (_ : Int) < _; omega)
  | decide
  | assumption)
local macro_rules | `(tactic| walk_at "r") => `(tactic| first
  | refine ⟨_, rfl, ?_⟩
  | refine ⟨_, _, rfl, rfl, ?_⟩
  | refine ⟨_, _, _, _, rfl, rfl, SqL.of (by walk_at "hp"), rfl, ?_⟩
  | refine ⟨_, _, _, _, rfl, rfl, SqT.of (by walk_at "hp"), rfl, ?_⟩
  | refine ⟨_, _, _, _, rfl, rfl, (by walk_at "hp"), rfl, ?_⟩
  | refine And.intro rfl ?_
  | refine ⟨_, _, rfl, SqT.of (by walk_at "hp"), ?_⟩
  | refine ⟨_, _, rfl, SqL.of (by walk_at "hp"), ?_⟩
  | refine .inl ⟨_, rfl, ?_⟩
  | refine ⟨_, _, rfl, .inl (SqL.of (by walk_at "hp")), ?_⟩
  | refine ⟨_, _, rfl, .inr (SqT.of (by walk_at "hp")), ?_⟩
  | refine ⟨_, _, rfl, .inl ⟨SqL.of (by walk_at "hp"), ?_⟩⟩
  | refine And.intro (.inl ⟨rfl, _, SqL.of (by walk_at "hp")⟩) ?_
  | refine ⟨_, _, _, rfl, rfl, (by walk_at "hp"), ?_⟩
  | refine ⟨_, _, rfl, (by walk_at "hp"), ?_⟩
  | refine And.intro (by walk_at "side") ?_)
local macro_rules | `(tactic| walk_at "rr") => `(tactic| (repeat walk_at "r"))
local macro_rules | `(tactic| walk_at "k") => `(tactic| first
  | refine ite2 (fun _ => ?_) (fun g => absurd rfl g)
  | refine ite2 (fun g => absurd g (by decide)) (fun _ => ?_)
  | refine ite2 (fun _ => ?_) (fun g => absurd (decide_eq_true (by omega)) g)
  | refine ite2 (fun g => absurd (of_decide_eq_true g) (by omega)) (fun _ => ?_)
  | refine ite2 (fun g => (nd_t g (by omega)).elim) (fun _ => ?_)
  | refine ite2 (fun _ => ?_) (fun g => absurd (nd_f g) (by omega)))
local macro_rules | `(tactic| walk_at "rk") => `(tactic| (repeat (first | walk_at "r" | walk_at "k")))
theorem ok_list {z : Str} (h : ∀ c ∈ z.cps.toList, c < 0x110000) : PyData.strOk z = true := by
  unfold PyData.strOk
  rw [Array.all_eq_true]
  intro i hi
  exact decide_eq_true (h z.cps[i] (Array.mem_toList_iff.mpr (Array.getElem_mem hi)))
theorem app_list (a b : Str) : (a ++ b).cps.toList = a.cps.toList ++ b.cps.toList := by
  have e : (a ++ b : Str).cps = a.cps ++ b.cps := rfl
  rw [e, Array.toList_append]
theorem low_lt {z : Str} (h : Low z) : ∀ c ∈ z.cps.toList, c < 0x110000 := fun c hc => by have := h.c c hc; omega
theorem low_okS {z : Str} (h : Low z) : PyData.strOk z = true := ok_list (low_lt h)
theorem name_strOk {m : Int} {z : Str} (h : Name m z) : PyData.strOk z = true := low_okS h.low
def pD (a b : List Int) (r : Int) : PyData := .tuple [.tuple (a.map PyData.int), .int r]
theorem pD_shaped (a b : List Int) (r : Int) : SeqAt.shaped (pD a b r) = true := by
  have h2 := dep_row a
  have h3 : PyData.depth (pD a b r) ≤ 64 := by unfold pD; simp only [PyData.depth, PyData.depthAll]; omega
  have h4 : PyData.canLay0 (pD a b r) = true := by unfold pD; simp [PyData.canLay0, PyData.canLayAll0, lay_row]
  show (PyData.canLay0 (pD a b r) && decide (PyData.depth (pD a b r) ≤ 64)) = true
  rw [h4, decide_eq_true h3]; rfl
theorem after_dp {K : PySem.W.Frag} {S : Sys} {off : List Int} {row : List (Option Int)} {t : Addr} {H : Hp} (h : AfterIs S off row t H) : Dp K H (.ref t) (pD (newOff (rawL S.n.toNat S.ws (srv S.n.toNat off row))) [] (minL (rawL S.n.toNat S.ws (srv S.n.toNat off row)))) := by
  obtain ⟨tv, h1, h2⟩ := h
  exact .tup (SqT.of h1) (.cons (intT_dp h2) (.cons (.int _) .nil))
/-- what the offsets may be, beside the dice at d and the system at x -/
def OfV (cB d x : Addr) (H : Hp) (v : V) : Prop := Dat (fun a => a ≠ d) H v ∨ v = .ref x ∨ ∃ a, v = .ref a ∧ H a = some (ExO (.ref cB) a) ∧ a ≠ d
theorem OfV.keep {cB d x : Addr} {H H' : Hp} {v : V} (h : OfV cB d x H v) (k : Keep d H H') : OfV cB d x H' v := by
  rcases h with h | h | ⟨a, e, h1, h2⟩
  · exact .inl (h.keep k)
  · exact .inr (.inl h)
  · exact .inr (.inr ⟨a, e, k _ _ h2 h1, h2⟩)
def NaV (d x : Addr) (H : Hp) (v : V) : Prop := OddV (fun a => a ≠ d) H v ∨ v = .ref x
theorem NaV.keep {d x : Addr} {H H' : Hp} {v : V} (h : NaV d x H v) (k : Keep d H H') : NaV d x H' v := h.elim (fun h => .inl (h.keep k)) .inr
theorem offIs_back {K : PySem.W.Frag} {n : Int} {ws : List (List Int)} {H H' : Hp} {v : V} (t : Thg K H v) (k : Same H H') (h : OffIs n ws H' v) : OffIs n ws H v := by
  obtain ⟨off, ⟨a, rfl, ha⟩, O⟩ := h
  obtain ⟨m, hm⟩ := t.ty
  have h0 : H a = some (.tup (off.map V.int)) := by
    cases hm with
    | blt hb =>
      cases q : H a with
      | none => unfold tyN at hb; simp only [q] at hb; cases hb
      | some o => rw [k _ _ q] at ha; cases ha; rfl
    | ins q _ _ => rw [k _ _ q] at ha; cases ha
    | err q _ => rw [k _ _ q] at ha; cases ha
  exact ⟨off, ⟨a, rfl, h0⟩, O⟩
theorem ne_self {v : V} (g : (!decide (v = v)) = true) : False := by
  rw [decide_eq_true rfl] at g
  cases g
def spJudged : Sp := fun vs H Q _ => ∃ (d c : Addr), vs = [.ref d] ∧ Dice c H d ∧ ∀ H', Keep d H H' → Dice c H' d → Q (.bl true) H'
section
variable {P : Program} {w : World} {K : PySem.W.Frag} {mg : Str → Option Value} {base : Heap}
theorem ofV_thg (T : Top K mg) {d x : Addr} {S : Sys} {H : Hp} {v : V} (h : OfV T.c_BadOffsets d x H v) (SA : SysAt T.c_System H x S) : Thg K H v := by
  rcases h with h | rfl | ⟨a, rfl, h1, h2⟩
  · exact thg_dat h
  · obtain ⟨dx, mv, na, wv, q, kvs, hp, _⟩ := SA.ex
    exact ⟨⟨_, .ins hp T.cl_System T.I_System⟩, fun a xs e ha => by cases e; rw [hp] at ha; cases ha⟩
  · exact ⟨⟨_, .err h1 T.y_BadOffsets.er⟩, fun b xs e hb => by cases e; rw [h1] at hb; cases hb⟩
theorem naV_nm (T : Top K mg) {d x : Addr} {S : Sys} {H : Hp} {v : V} (h : NaV d x H v) (ok : SysOk S) (SA : SysAt T.c_System H x S) : NmV K T.c_System (fun a => a ≠ d) H v := h.elim .inl fun e => .inr ⟨x, S, e, ok, SA⟩
theorem ok__law_things_judged (T : Top K mg) : Ok P w K mg base 9 "_law_things_judged" ["dice"] spJudged := by
  refine ok_of T.d__law_things_judged sc__law_things_judged (fun vs H Q E h => ?_) (fun f cdv A outer s H vs Q E hr h => ?_)
  · obtain ⟨d, c, rfl, _⟩ := h
    rfl
  · obtain ⟨d, c, rfl, D0, k⟩ := h
    obtain ⟨f__law_draw, fd__law_draw, m__law_draw, k__law_draw, b__law_draw, G__law_draw⟩ := ok__law_draw (P := P) (w := w) (base := base) T
    have hr__law_draw : Room 1 _ := hr.mono (by decide)
    obtain ⟨f__law_moves, fd__law_moves, m__law_moves, k__law_moves, b__law_moves, G__law_moves⟩ := ok__law_moves (P := P) (w := w) (base := base) T
    have hr__law_moves : Room 2 _ := hr.mono (by decide)
    obtain ⟨f__law_names, fd__law_names, m__law_names, k__law_names, b__law_names, G__law_names⟩ := ok__law_names (P := P) (w := w) (base := base) T
    have hr__law_names : Room 3 _ := hr.mono (by decide)
    obtain ⟨f__law_requests, fd__law_requests, m__law_requests, k__law_requests, b__law_requests, G__law_requests⟩ := ok__law_requests (P := P) (w := w) (base := base) T
    have hr__law_requests : Room 3 _ := hr.mono (by decide)
    obtain ⟨f_System, fd_System, m_System, M_System, b_System, G_System⟩ := ok_SystemZ_initZ (P := P) (w := w) (base := base) T
    have hr_System : Room 8 _ := hr.mono (by decide)
    obtain ⟨f__law_ways, fd__law_ways, m__law_ways, k__law_ways, b__law_ways, G__law_ways⟩ := ok__law_ways (P := P) (w := w) (base := base) T
    have hr__law_ways : Room 1 _ := hr.mono (by decide)
    obtain ⟨f__law_offsets, fd__law_offsets, m__law_offsets, k__law_offsets, b__law_offsets, G__law_offsets⟩ := ok__law_offsets (P := P) (w := w) (base := base) T
    have hr__law_offsets : Room 2 _ := hr.mono (by decide)
    obtain ⟨f_after_request, fd_after_request, m_after_request, k_after_request, b_after_request, G_after_request⟩ := ok_after_request (P := P) (w := w) (base := base) T
    have hr_after_request : Room 5 _ := hr.mono (by decide)
    obtain ⟨f__law_spoiled, fd__law_spoiled, m__law_spoiled, k__law_spoiled, b__law_spoiled, G__law_spoiled⟩ := ok__law_spoiled (P := P) (w := w) (base := base) T
    have hr__law_spoiled : Room 3 _ := hr.mono (by decide)
    obtain ⟨f__law_word, fd__law_word, m__law_word, k__law_word, b__law_word, G__law_word⟩ := ok__law_word (P := P) (w := w) (base := base) T
    have hr__law_word : Room 2 _ := hr.mono (by decide)
    obtain ⟨f__law_odd, fd__law_odd, m__law_odd, k__law_odd, b__law_odd, G__law_odd⟩ := ok__law_odd (P := P) (w := w) (base := base) T
    have hr__law_odd : Room 2 _ := hr.mono (by decide)
    obtain ⟨f__law_told_after, fd__law_told_after, m__law_told_after, k__law_told_after, b__law_told_after, G__law_told_after⟩ := ok__law_told_after (P := P) (w := w) (base := base) T
    have hr__law_told_after : Room 6 _ := hr.mono (by decide)
    obtain ⟨f__law_are_offsets, fd__law_are_offsets, m__law_are_offsets, k__law_are_offsets, b__law_are_offsets, G__law_are_offsets⟩ := ok__law_are_offsets (P := P) (w := w) (base := base) T
    have hr__law_are_offsets : Room 2 _ := hr.mono (by decide)
    obtain ⟨f__law_same, fd__law_same, m__law_same, k__law_same, b__law_same, G__law_same⟩ := ok__law_same (P := P) (w := w) (base := base) T
    have hr__law_same : Room 3 _ := hr.mono (by decide)
    have hu := hu_of hr
    have hu64 := hr.units
    refine ⟨_, (pss_cons (ps_set (i := 1) sc__law_things_judged.nd rfl (Or.inl rfl) (pe_cmpR op_gt (pe_call G__law_draw hr__law_draw rfl m__law_draw k__law_draw b__law_draw .nil pass0 (pa_cons (pv 0) (pa_cons pe_int pa_nil))) pe_int (nomark _)))
      (pss_cons (ps_set (i := 2) sc__law_things_judged.nd rfl (Or.inl rfl) (pe_call G__law_draw hr__law_draw rfl m__law_draw k__law_draw b__law_draw .nil pass0 (pa_cons (pv 0) (pa_cons pe_int pa_nil))))
      (pss_cons (ps_set (i := 3) sc__law_things_judged.nd rfl (Or.inl rfl) (pe_op op_add pe_int (pe_call G__law_draw hr__law_draw rfl m__law_draw k__law_draw b__law_draw .nil pass0 (pa_cons (pv 0) (pa_cons pe_int pa_nil)))))
      (pss_cons (ps_set (i := 4) sc__law_things_judged.nd rfl (Or.inl rfl) (pe_call G__law_moves hr__law_moves rfl m__law_moves k__law_moves b__law_moves .nil pass0 (pa_cons (pv 0) (pa_cons (pv 3) (pa_cons pe_int pa_nil)))))
      (pss_cons (ps_set (i := 5) sc__law_things_judged.nd rfl (Or.inl rfl) (pe_call G__law_names hr__law_names rfl m__law_names k__law_names b__law_names .nil pass0 (pa_cons (pv 0) (pa_cons (pe_op op_add pe_int (pe_call G__law_draw hr__law_draw rfl m__law_draw k__law_draw b__law_draw .nil pass0 (pa_cons (pv 0) (pa_cons pe_int pa_nil)))) (pa_cons pe_int pa_nil)))))
      (pss_cons (ps_set (i := 6) sc__law_things_judged.nd rfl (Or.inl rfl) (pe_call G__law_requests hr__law_requests rfl m__law_requests k__law_requests b__law_requests .nil pass0 (pa_cons (pv 0) (pa_cons (pv 5) (pa_cons (pv 3) (pa_cons pe_int pa_nil))))))
      (pss_cons (ps_set (i := 7) sc__law_things_judged.nd rfl (Or.inl rfl) (pe_make M_System G_System hr_System rfl m_System b_System .nil pass0 (pa_cons (pv 4) (pa_cons (pe_callTy (T := "dict") call_dictD (by rfl) T.b_dict (by decide +kernel) (pa_cons (pv 6) pa_nil)) pa_nil))))
      (pss_cons (ps_set (i := 8) sc__law_things_judged.nd rfl (Or.inl rfl) (pe_call G__law_ways hr__law_ways rfl m__law_ways k__law_ways b__law_ways .nil pass0 (pa_cons (pv 4) pa_nil)))
      (pss_cons (ps_set (i := 9) sc__law_things_judged.nd rfl (Or.inl rfl) (pe_call G__law_offsets hr__law_offsets rfl m__law_offsets k__law_offsets b__law_offsets .nil pass0 (pa_cons (pv 0) (pa_cons (pv 8) (pa_cons pe_int pa_nil)))))
      (pss_cons (ps_set (i := 10) sc__law_things_judged.nd rfl (Or.inl rfl) (pe_call G_after_request hr_after_request rfl m_after_request k_after_request b_after_request .nil passL (pa_cons (pv 7) (pa_cons (pv 9) (pa_cons (pe_ix ix_list (pv 5) pe_int (fun _ _ => rfl)) pa_nil)))))
      (pss_cons (ps_set (i := 11) sc__law_things_judged.nd rfl (Or.inl rfl) (pv 9))
      (C8.pss_cut (ps_if (pt_val (pv 1))
      (pss_one (ps_set (i := 11) sc__law_things_judged.nd rfl (Or.inl rfl) (pe_call G__law_spoiled hr__law_spoiled rfl m__law_spoiled k__law_spoiled b__law_spoiled .nil pass0 (pa_cons (pv 0) (pa_cons (pv 9) pa_nil)))))
      pss_nil)
      (pss_cons (ps_set (i := 12) sc__law_things_judged.nd rfl (Or.inl rfl) (pe_ix ix_list (pv 5) (pe_call G__law_draw hr__law_draw rfl m__law_draw k__law_draw b__law_draw .nil pass0 (pa_cons (pv 0) (pa_cons (pe_callB (id := "len") call_len_seq (by rfl) T.b_len (by decide +kernel) (pa_cons (pv 5) pa_nil)) pa_nil))) (fun _ _ => rfl)))
      (C8.pss_cut (ps_if (pt_cmpR op_eq (pv 2) pe_int (nomark _))
      (pss_one (ps_set (i := 12) sc__law_things_judged.nd rfl (Or.inl rfl) (pe_call G__law_word hr__law_word rfl m__law_word k__law_word b__law_word .nil pass0 (pa_cons (pv 0) (pa_cons pe_int pa_nil)))))
      pss_nil)
      (C8.pss_cut (ps_if (pt_cmpR op_eq (pv 2) pe_int (nomark _))
      (pss_one (ps_set (i := 12) sc__law_things_judged.nd rfl (Or.inl rfl) (pe_ix ix_list (pe_lst (pa_cons (pe_call G__law_odd hr__law_odd rfl m__law_odd k__law_odd b__law_odd .nil pass0 (pa_cons (pv 0) pa_nil)) (pa_cons (pe_call G__law_odd hr__law_odd rfl m__law_odd k__law_odd b__law_odd .nil pass0 (pa_cons (pv 0) pa_nil)) (pa_cons (pv 7) pa_nil)))) (pe_call G__law_draw hr__law_draw rfl m__law_draw k__law_draw b__law_draw .nil pass0 (pa_cons (pv 0) (pa_cons pe_int pa_nil))) (fun _ _ => rfl))))
      pss_nil)
      (C8.pss_cut (ps_if (pt_cmpR op_eq (pe_call G__law_draw hr__law_draw rfl m__law_draw k__law_draw b__law_draw .nil pass0 (pa_cons (pv 0) (pa_cons pe_int pa_nil))) pe_int (nomark _))
      (pss_one (ps_set (i := 11) sc__law_things_judged.nd rfl (Or.inl rfl) (pe_ix ix_list (pe_lst (pa_cons (pv 7) (pa_cons (pe_err0 PySem.F.excBase_ValueError T.y_BadOffsets.ex T.mg_BadOffsets T.y_BadOffsets.kp rfl) pa_nil))) (pe_call G__law_draw hr__law_draw rfl m__law_draw k__law_draw b__law_draw .nil pass0 (pa_cons (pv 0) (pa_cons pe_int pa_nil))) (fun _ _ => rfl))))
      pss_nil)
      (pss_cons (ps_set (i := 13) sc__law_things_judged.nd rfl (Or.inl rfl) (pe_call G__law_told_after hr__law_told_after rfl m__law_told_after k__law_told_after b__law_told_after .nil pass0 (pa_cons (pv 7) (pa_cons (pv 11) (pa_cons (pv 12) pa_nil)))))
      (C8.pss_cut (ps_if (pt_not (pt_val (pe_call G__law_are_offsets hr__law_are_offsets rfl m__law_are_offsets k__law_are_offsets b__law_are_offsets .nil pass0 (pa_cons (pv 8) (pa_cons (pv 11) pa_nil)))))
      (pss_one (ps_if (pt_cmpR op_ne (pe_ix ix_tup (pv 13) pe_int (fun _ _ => rfl)) pe_str (nomark _))
      (pss_one (ps_ret pe_bl))
      pss_nil))
      (pss_one (ps_if (PW.pt (pw_or (pt_not (pt_val (pe_callB (id := "isinstance") (call_isG (T := "str") (by simp [six])) (by rfl) T.b_isinstance (by decide +kernel) (pa_cons (pv 12) (pa_cons (pe_bltn (v := .ty "str") (u := .type "str") (by rfl) T.b_str (by decide +kernel) rfl) pa_nil))))) (pw_or1 (pt_cmp (pc_dnotin hu (pv 12) (pv 6))))))
      (pss_one (ps_if (PW.pt (pw_or (pt_cmpR op_ne (pe_ix ix_tup (pv 13) pe_int (fun _ _ => rfl)) pe_str (nomark _)) (pw_or1 (pt_not (pt_val (pe_call G__law_same hr__law_same rfl m__law_same k__law_same b__law_same .nil pass0 (pa_cons (pe_ix ix_tup (pv 13) pe_int (fun _ _ => rfl)) (pa_cons (pv 12) pa_nil))))))))
      (pss_one (ps_ret pe_bl))
      pss_nil))
      (pss_one (ps_if (PW.pt (pw_or (pt_cmpR op_ne (pe_ix ix_tup (pv 13) pe_int (fun _ _ => rfl)) pe_str (nomark _)) (pw_or (pt_not (pt_val (pe_callB (id := "isinstance") (call_isN (T := "tuple")) (by rfl) T.b_isinstance (by decide +kernel) (pa_cons (pe_ix ix_tup (pv 13) pe_int (fun _ _ => rfl)) (pa_cons (pe_bltn (v := .ty "tuple") (u := .type "tuple") (by rfl) T.b_tuple (by decide +kernel) rfl) pa_nil))))) (pw_or1 (pt_cmpR op_ne (pe_callB (id := "len") call_len_seq (by rfl) T.b_len (by decide +kernel) (pa_cons (pe_ix ix_tup (pv 13) pe_int (fun _ _ => rfl)) pa_nil)) pe_int (nomark _))))))
      (pss_one (ps_ret pe_bl))
      pss_nil)))))
      (pss_one (ps_ret (pe_cmpR (op_eqD hu64) (pe_call G_after_request hr_after_request rfl m_after_request k_after_request b_after_request .nil passL (pa_cons (pv 7) (pa_cons (pv 9) (pa_cons (pe_ix ix_list (pv 5) pe_int (fun _ _ => rfl)) pa_nil)))) (pv 10) (nomark _)))))))))))))))))))))), ?_⟩
    refine ⟨_, rfl, d, c, _, rfl, D0, by omega, by omega, fun u1 G1 e0 e1 g1 E1 => ?_⟩
    refine ⟨_, _, rfl, rfl, ?_⟩
    refine ⟨_, rfl, d, c, _, rfl, E1, by omega, by omega, fun u2 Hz f0 f1 g2 Dz => ?_⟩
    have kz := g1.trans g2
    walk_at "rr"
    refine ⟨d, c, _, rfl, Dz, by omega, by omega, fun v1 H1 a0 a1 k1 D1 => ?_⟩
    walk_at "rr"
    refine ⟨d, c, _, 9, rfl, D1, by omega, by omega, by omega, by omega, fun mv rows H2 hmv sq k2 D2 => ?_⟩
    walk_at "rr"
    refine ⟨d, c, _, rfl, D2, by omega, by omega, fun v2 H3 b0 b1 k3 D3 => ?_⟩
    walk_at "rr"
    refine ⟨d, c, _, 8, rfl, D3, by omega, by omega, by omega, by omega, fun l zs H4 nl4 hl nd1 z1 z2 hN k4 D4 => ?_⟩
    have nld := D3.ne nl4
    walk_at "rr"
    refine ⟨d, c, l, zs, _, 9, rfl, D4, hl, by omega, nld, nd1, by omega, by omega, by omega, by omega, fun q kvs rs0 H5 nq hq hRq hkeys hpr k5 D5 => ?_⟩
    have hl5 := k5 _ _ nld hl
    have nqd : q ≠ d := D4.ne nq
    have hmv5 : TupT IntT H5 mv rows := TupT.firm IntT.firm _ _ _ _ (fun e xs q => k5.tup D4 (k4.tup D3 (k3.tup D2 q))) hmv
    have hRq5 : ReqAt H5 q (1 + v1) rs0 := ⟨⟨kvs, hq, hRq⟩, by rw [hkeys]; exact nd1, hpr⟩
    have k05 := (((kz.trans k1).trans k2).trans (k3.trans k4)).trans k5
    have n1 : 1 ≤ 1 + v1 := by omega
    have n6 : 1 + v1 ≤ 6 := by omega
    refine ⟨_, rfl, _, rfl, q, kvs, rfl, .inl hq, fun p2 np2 x dx nx ndx nex => ?_⟩
    have s8 : Same H5 (upd H5 p2 (.dK kvs)) := same_new np2
    have s9 : Same (upd H5 p2 (.dK kvs)) (upd (upd (upd H5 p2 (.dK kvs)) dx (.own x)) x (.ins T.c_System dx [])) := fun b o e => by
      rw [upd_ne (ne_of_none e nx), upd_ne (ne_of_none e ndx)]
      exact e
    have s89 := s8.trans s9
    have hzl : rs0.length = zs.length := by rw [← hkeys, List.length_map]
    refine ⟨x, dx, mv, p2, rows, kvs, rs0, _, rfl, upd_same, TupT.firm IntT.firm _ _ _ _ (same_tups s89) hmv5, sq, by omega, by omega, s9 _ _ upd_same, hRq.firm OptT.firm (same_tups s89), hRq5.nd, by omega, by omega, fun y hy => ⟨hpr y hy, hN y.1 (by rw [← hkeys]; exact List.mem_map.mpr ⟨y, hy, rfl⟩)⟩, fun S H6 qq ok eS eR eP SQ6 hne kp => ⟨rfl, ?_⟩⟩
    have s6 : Same H5 H6 := fun b o e => kp b o (ne_of_none (s8 _ _ e) nx) (s89 b o e)
    have D6 := D5.same s6
    have k06 := k05.trans (same_keep s6)
    subst eR
    have eS' : 1 + v1 = S.n := eS.symm
    rw [eS'] at hRq5 sq
    have X6 : SysEx T.c_System d q x l qq mv kvs zs rs0 S H6 := ⟨ok, SQ6, TupT.firm IntT.firm _ _ _ _ (same_tups s6) hmv5, hRq5.same s6, fun y => eP.mem_iff.symm, s6 _ _ hl5, nld, hkeys, by omega, by omega, hN⟩
    clear SQ6 hne kp hRq5 hmv5 s89 s9 s8 hl5 hl hmv hRq
    refine ⟨_, rfl, mv, S.rows, S.n, 9, rfl, X6.mv, sq, ok.n1, by have := ok.n6; omega, fun W M H7 s7 hM hlst => ?_⟩
    have D7 := D6.same s7
    have X7 := X6.keep D6 (same_keep s7)
    have k07 := k06.trans (same_keep s7)
    have hMw : ∀ i j, i < S.n.toNat → j < S.n.toNat → M i j = mat S.ws i j := fun i j hi hj => hlst.uniq ok.wy.least hi hj
    have nWd : W ≠ d := by
      obtain ⟨was, w1, w2, w3⟩ := hM.ex
      intro z; subst z
      obtain ⟨cells, i', b', s', t', e, _⟩ := D7.ex
      rw [w1] at e
      injection e with e
      injection e with e
      match was, e with
      | [], e => cases e
      | [_], e => cases e
      | _ :: _ :: _, e => cases e
    have hn1 := ok.n1
    have hn6 := ok.n6
    refine ⟨_, rfl, _, rfl, d, c, W, M, S.n, S.ws, 12, rfl, D7, nWd, hM, hMw, ok.met, hn1, hn6, by omega, by decide, fun ov off H8 k8 D8 hov O => ?_⟩
    have X8 := X7.keep D7 k8
    have hM8 : LM H8 W S.n.toNat M := by
      obtain ⟨was, w1, w2, w3⟩ := hM.ex
      refine ⟨was, k8 _ _ nWd w1, w2, fun i a e => k8 _ _ ?_ (w3 i a e)⟩
      intro z; subst z
      obtain ⟨cells, i', b', s', t', e', _⟩ := D7.ex
      rw [w3 i a e] at e'
      have h0 := rowV_at (n := S.n.toNat) (f := M i) (j := 0) (by omega)
      injection e' with e'
      injection e' with e'
      rw [e'] at h0
      cases h0
    obtain ⟨z0, hz0⟩ : ∃ z, zs[0]? = some z := ⟨_, List.getElem?_eq_getElem (by have := X8.z1; omega)⟩
    have hz0' : (zs.map V.str)[0]? = some (.str z0) := by rw [List.getElem?_map, hz0]; rfl
    obtain ⟨row, hm⟩ := X8.row (List.mem_of_getElem? hz0)
    have hmS := (X8.mem _).mp hm
    refine ⟨_, rfl, _, rfl, _, rfl, l, _, 0, .str z0, rfl, rfl, SqL.of X8.nm, atI_nat hz0', ?_⟩
    refine ⟨x, S, ov, .str z0, "str", rfl, ok, X8.sys.at, thg_ints hov, .blt rfl, ?_, fun hno => absurd ⟨off, hov, O⟩ hno, fun _ hno => absurd (List.mem_map.mpr ⟨_, hmS, rfl⟩) (hno z0 rfl)⟩
    rintro off' z row' hv' O' ez hm' tb H9 s9 hA
    obtain rfl := intT_fn hv' hov
    cases ez
    obtain rfl := row_fn ok.nd hm' hmS
    have X9 := X8.keep D8 (same_keep s9)
    have D9 := D8.same s9
    have hM9 := hM8.same s9
    have hov9 : IntT H9 ov off' := IntT.firm _ _ _ _ (same_tups s9) hov
    have k09 := (k07.trans k8).trans (same_keep s9)
    clear hM8 hM
    refine ⟨_, rfl, ?_⟩
    refine ⟨fun σ' H' => ∃ ofv, σ' = [some (.ref d), some (.bl (decide (0 < u1))), some (.int u2), some (.int (1 + v1)), some mv, some (.ref l), some (.ref q), some (.ref x), some (.ref W), some ov, some (.ref tb), some ofv, none, none] ∧ OfV T.c_BadOffsets d x H' ofv ∧ Keep d H9 H' ∧ Dice c H' d, ?_, ?_⟩
    · refine ⟨_, rfl, _, rfl, ?_⟩
      refine ite2 (fun _ => ?_) (fun _ => ?_)
      · refine ⟨_, rfl, _, rfl, d, c, ov, off', rfl, D9, hov9, by rw [O.len]; omega, by rw [O.len]; omega, fun v H' hv k' D' => ?_⟩
        exact ⟨v, rfl, .inl hv, k', D'⟩
      · obtain ⟨oa, rfl, hoa⟩ := hov9
        refine ⟨_, rfl, .inl (.tup oa _ (D9.tup hoa) hoa fun y hy => ?_), Keep.refl _ _, D9⟩
        obtain ⟨i, _, rfl⟩ := List.mem_map.mp hy
        exact .int i
    rintro σ' H10 ⟨ofv, rfl, hof, k10, D10⟩
    have X10 := X9.keep D9 k10
    refine ⟨_, rfl, _, rfl, _, rfl, l, _, rfl, .inl (SqL.of X10.nm), ?_⟩
    refine ⟨d, c, _, rfl, D10, by rw [List.length_map]; have := X10.z1; omega, by rw [List.length_map]; have := X10.z3; omega, fun v3 H11 c0' c1' k11 D11 => ?_⟩
    rw [List.length_map] at c1'
    have X11 := X10.keep D10 k11
    obtain ⟨z3', hz3⟩ : ∃ z, zs[v3.toNat]? = some z := ⟨_, List.getElem?_eq_getElem (by omega)⟩
    refine ⟨l, _, v3, .str z3', rfl, rfl, SqL.of X11.nm, ?_, ?_⟩
    · have hz3' : (zs.map V.str)[v3.toNat]? = some (.str z3') := by rw [List.getElem?_map, hz3]; rfl
      have h := atI_nat hz3'
      rwa [Int.toNat_of_nonneg c0'] at h
    have hstr : ∀ {z : Str} {H' : Hp}, Name 8 z → NaV d x H' (.str z) := fun h => .inl (OddV.str (name_strOk h))
    refine ⟨(fun σ' H' => ∃ ofv nv, σ' = [some (.ref d), some (.bl (decide (0 < u1))), some (.int u2), some (.int (1 + v1)), some mv, some (.ref l), some (.ref q), some (.ref x), some (.ref W), some ov, some (.ref tb), some ofv, some nv, none] ∧ OfV T.c_BadOffsets d x H' ofv ∧ NaV d x H' nv ∧ Keep d H9 H' ∧ Dice c H' d), ?_, ?_⟩
    · refine ⟨_, rfl, rfl, _, rfl, ?_⟩
      refine ite2 (fun _ => ?_) (fun _ => ?_)
      · refine ⟨_, rfl, d, c, 8, rfl, D11, by omega, by omega, fun z H' hz k' D' => ?_⟩
        exact ⟨ofv, _, rfl, (hof.keep k11).keep k', hstr hz, (k10.trans k11).trans k', D'⟩
      · exact ⟨ofv, _, rfl, hof.keep k11, hstr (X11.low _ (List.mem_of_getElem? hz3)), k10.trans k11, D11⟩
    rintro σ' H12 ⟨ofv, nv, rfl, hof, hnv, k12, D12⟩
    refine ⟨(fun σ' H' => ∃ ofv nv, σ' = [some (.ref d), some (.bl (decide (0 < u1))), some (.int u2), some (.int (1 + v1)), some mv, some (.ref l), some (.ref q), some (.ref x), some (.ref W), some ov, some (.ref tb), some ofv, some nv, none] ∧ OfV T.c_BadOffsets d x H' ofv ∧ NaV d x H' nv ∧ Keep d H9 H' ∧ Dice c H' d), ?_, ?_⟩
    · refine ⟨_, rfl, rfl, _, rfl, ?_⟩
      refine ite2 (fun _ => ?_) (fun _ => ?_)
      · refine ⟨_, rfl, d, c, rfl, D12, fun y1 H13 hy1 k13 D13 => ?_⟩
        refine ⟨_, rfl, d, c, rfl, D13, fun y2 H14 hy2 k14 D14 => ?_⟩
        have hy1' : OddV (fun a => a ≠ d) H14 y1 := OddV.keep (hy1.mono (fun _ _ _ e => e) fun a ha _ => D12.ne ha) k14
        have hy2' : OddV (fun a => a ≠ d) H14 y2 := hy2.mono (fun _ _ _ e => e) fun a ha _ => D13.ne ha
        refine ⟨_, rfl, (by show 3 ≤ sizeLine; decide), fun p1 np1 => ?_⟩
        have f1 : (upd H14 p1 (.lst [y1, y2, .ref x])) p1 = some (.lst [y1, y2, .ref x]) := upd_same
        have st := same_new (o := .lst [y1, y2, .ref x]) np1
        have np1d := D14.ne np1
        have D15 := D14.same st
        have h1 := hy1'.same st
        have h2 := hy2'.same st
        generalize upd H14 p1 (.lst [y1, y2, .ref x]) = H15 at *
        refine ⟨_, rfl, d, c, _, rfl, D15, by omega, by omega, fun v4 H16 d0 d1 k16 D16 => ?_⟩
        obtain ⟨y, hy, hyn⟩ : ∃ y, [y1, y2, V.ref x][v4.toNat]? = some y ∧ NaV d x H16 y := by
          rcases (by omega : v4.toNat = 0 ∨ v4.toNat = 1 ∨ v4.toNat = 2) with e | e | e <;> rw [e]
          · exact ⟨_, rfl, .inl (h1.keep k16)⟩
          · exact ⟨_, rfl, .inl (h2.keep k16)⟩
          · exact ⟨_, rfl, .inr rfl⟩
        have kk := ((k13.trans k14).trans (same_keep st)).trans k16
        refine ⟨p1, _, v4, y, rfl, rfl, SqL.of (k16 _ _ np1d f1), ?_, ?_⟩
        · have := atI_nat hy
          rwa [Int.toNat_of_nonneg d0] at this
        exact ⟨ofv, y, rfl, hof.keep kk, hyn, k12.trans kk, D16⟩
      · exact ⟨ofv, nv, rfl, hof, hnv, k12, D12⟩
    clear hof hnv k12 D12
    rintro σ' H13 ⟨ofv, nv, rfl, hof, hnv, k13, D13⟩
    refine ⟨(fun σ' H' => ∃ ofv nv, σ' = [some (.ref d), some (.bl (decide (0 < u1))), some (.int u2), some (.int (1 + v1)), some mv, some (.ref l), some (.ref q), some (.ref x), some (.ref W), some ov, some (.ref tb), some ofv, some nv, none] ∧ OfV T.c_BadOffsets d x H' ofv ∧ NaV d x H' nv ∧ Keep d H9 H' ∧ Dice c H' d), ?_, ?_⟩
    · refine ⟨_, rfl, d, c, _, rfl, D13, by omega, by omega, fun v5 H14 d0 d1 k14 D14 => ?_⟩
      refine ⟨rfl, _, rfl, ?_⟩
      refine ite2 (fun _ => ?_) (fun _ => ?_)
      · refine ⟨_, rfl, fun a na => ?_⟩
        have fa : (upd H14 a (ExO (.ref T.c_BadOffsets) a)) a = some (ExO (.ref T.c_BadOffsets) a) := upd_same
        have sa := same_new (o := ExO (.ref T.c_BadOffsets) a) na
        have nad := D14.ne na
        have D15 := D14.same sa
        generalize upd H14 a (ExO (.ref T.c_BadOffsets) a) = H15 at *
        refine ⟨(by show 2 ≤ sizeLine; decide), fun p1 np1 => ?_⟩
        have f1 : (upd H15 p1 (.lst [.ref x, .ref a])) p1 = some (.lst [.ref x, .ref a]) := upd_same
        have st := same_new (o := .lst [.ref x, .ref a]) np1
        have np1d := D15.ne np1
        have D16 := D15.same st
        have fa2 := st _ _ fa
        generalize upd H15 p1 (.lst [.ref x, .ref a]) = H16 at *
        refine ⟨_, rfl, d, c, _, rfl, D16, by omega, by omega, fun v6 H17 g0 g1 k17 D17 => ?_⟩
        obtain ⟨y, hy, hyn⟩ : ∃ y, [V.ref x, .ref a][v6.toNat]? = some y ∧ OfV T.c_BadOffsets d x H17 y := by
          rcases (by omega : v6.toNat = 0 ∨ v6.toNat = 1) with e | e <;> rw [e]
          · exact ⟨_, rfl, .inr (.inl rfl)⟩
          · exact ⟨_, rfl, .inr (.inr ⟨a, rfl, k17 _ _ nad fa2, nad⟩)⟩
        have kk := ((k14.trans (same_keep sa)).trans (same_keep st)).trans k17
        refine ⟨p1, _, v6, y, rfl, rfl, SqL.of (k17 _ _ np1d f1), ?_, ?_⟩
        · have := atI_nat hy
          rwa [Int.toNat_of_nonneg g0] at this
        exact ⟨y, nv, rfl, hyn, hnv.keep kk, k13.trans kk, D17⟩
      · exact ⟨ofv, nv, rfl, hof.keep k14, hnv.keep k14, k13.trans k14, D14⟩
    clear hof hnv k13 D13
    rintro σ' H14 ⟨ofv, nv, rfl, hof, hnv, k14, D14⟩
    have X14 := X9.keep D9 k14
    have hM14 : LM H14 W S.n.toNat M := by
      obtain ⟨was, w1, w2, w3⟩ := hM9.ex
      refine ⟨was, k14 _ _ nWd w1, w2, fun i a e => k14 _ _ ?_ (w3 i a e)⟩
      intro z; subst z
      obtain ⟨cells, i', b', s', t', e', _⟩ := D9.ex
      rw [w3 i a e] at e'
      have h0 := rowV_at (n := S.n.toNat) (f := M i) (j := 0) (by omega)
      injection e' with e'
      injection e' with e'
      rw [e'] at h0
      cases h0
    have hov14 : IntT H14 ov off' := IntT.firm _ _ _ _ (keep_tups k14 D9) hov9
    have hA14 : AfterIs S off' row' tb H14 := by
      obtain ⟨tv, h1, h2⟩ := hA
      exact ⟨tv, k14.tup D9 h1, IntT.firm _ _ _ _ (keep_tups k14 D9) h2⟩
    have hT14 := ofV_thg T hof X14.sys.at
    have hN14 := naV_nm T hnv ok X14.sys.at
    obtain ⟨nn, hnn⟩ := nmV_ty T hN14
    refine ⟨_, rfl, _, rfl, _, rfl, x, S, ofv, nv, nn, rfl, ok, X14.sys.at, hT14, hnn, fun tt H15 kind found s15 htt told => ?_⟩
    refine ⟨fun σ' H' => σ' = [some (.ref d), some (.bl (decide (0 < u1))), some (.int u2), some (.int (1 + v1)), some mv, some (.ref l), some (.ref q), some (.ref x), some (.ref W), some ov, some (.ref tb), some ofv, some nv, some (.ref tt)] ∧ Same H14 H', ?_, ?_⟩
    · refine ⟨_, rfl, _, rfl, W, M, S.n, S.ws, ofv, rfl, hM14.same s15, hMw, hn1, hn6, hT14.same s15, fun b H16 s16 hb => ⟨_, rfl, ?_⟩⟩
      have htt16 := s16 _ _ htt
      have s1416 := s15.trans s16
      cases b with
      | false =>
        refine ite2 (fun _ => ?_) (fun g => absurd rfl g)
        have hno : ¬ OffIs S.n S.ws H14 ofv := fun h => nomatch (hb.mpr (h.same s15))
        obtain rfl : kind = "offsets" := by
          rcases told with ⟨h, _⟩ | ⟨_, h⟩ | ⟨h, _⟩
          · exact absurd h hno
          · exact h
          · exact absurd h hno
        refine ⟨_, rfl, tt, _, 0, .str "offsets", rfl, rfl, SqT.of htt16, rfl, rfl, _, rfl, ?_⟩
        refine ite2 (fun g => (ne_self g).elim) (fun _ => ?_)
        exact ⟨rfl, s1416⟩
      | true =>
        refine ite2 (fun g => nomatch g) (fun _ => ?_)
        have hyes : OffIs S.n S.ws H14 ofv := offIs_back hT14 s15 (hb.mp rfl)
        have X16 := X14.keep D14 (same_keep s1416)
        have hN16 := naV_nm T (hnv.keep (same_keep s1416)) ok X16.sys.at
        rcases told with ⟨_, ⟨z, rw_, rfl, hzm⟩, rfl, t', x', y', rfl, ht'⟩ | ⟨h, _⟩ | ⟨_, hun, rfl, rfl⟩
        · refine ⟨_, rfl, _, "str", rfl, .blt rfl, _, rfl, ?_⟩
          rw [isOf_str]
          refine ite2 (fun g => absurd g (by decide)) (fun _ => ?_)
          obtain ⟨pa, hg, _⟩ := X16.rq.get ((X16.mem _).mpr hzm)
          refine ⟨_, rfl, _, rfl, q, some (.ref pa), rfl, hg, _, rfl, ?_⟩
          refine ite2 (fun g => nomatch g) (fun _ => ?_)
          have ht16 := s16 _ _ ht'
          refine ⟨_, rfl, tt, _, 0, .str "told", rfl, rfl, SqT.of htt16, rfl, rfl, _, rfl, ?_⟩
          refine ite2 (fun g => (ne_self g).elim) (fun _ => ?_)
          refine ⟨_, rfl, tt, _, 1, .ref t', rfl, rfl, SqT.of htt16, rfl, _, "tuple", _, rfl, ty_tup ht16, kit7 (ty_tup ht16) (T := "tuple") (by simp), _, rfl, ?_⟩
          refine ite2 (fun g => absurd g (by decide)) (fun _ => ?_)
          refine ⟨_, rfl, tt, _, 1, .ref t', rfl, rfl, SqT.of htt16, rfl, t', _, rfl, .inr (SqT.of ht16), rfl, _, rfl, ?_⟩
          refine ite2 (fun g => absurd g (by simp)) (fun _ => ?_)
          exact ⟨rfl, s1416⟩
        · exact absurd hyes h
        · refine ⟨_, rfl, _, nn, rfl, hnn.same s1416, _, rfl, ?_⟩
          rw [isOf_str]
          refine ite2 (fun _ => ?_) (fun g => ?_)
          · skip
            refine ⟨_, rfl, tt, _, 0, .str "request", rfl, rfl, SqT.of htt16, rfl, rfl, _, rfl, ?_⟩
            refine ite2 (fun g => (ne_self g).elim) (fun _ => ?_)
            refine ⟨_, rfl, tt, _, 1, _, rfl, rfl, SqT.of htt16, rfl, _, rfl, _, fun a => a ≠ d, rfl, hN16, fun H17 s17 => ⟨_, rfl, ?_⟩⟩
            refine ite2 (fun g => nomatch g) (fun _ => ?_)
            exact ⟨rfl, s1416.trans s17⟩
          · have hst : nn = "str" := by
              by_cases e : nn = "str"
              · exact e
              · rw [show (nn == "str") = false by simp [e]] at g; exact absurd rfl g
            subst hst
            obtain ⟨z, rfl⟩ := tyG_str hnn
            obtain ⟨kv2, hq2, hR2⟩ := X16.rq.ex
            have hnone : valV kv2 (.inr z : Key) = none := dct_none hR2 fun hm => hun z rfl (by
              obtain ⟨y, hy, e⟩ := List.mem_map.mp hm
              exact List.mem_map.mpr ⟨y, (X16.mem _).mp hy, e⟩)
            refine ⟨_, rfl, _, rfl, q, none, rfl, (by rw [← hnone]; exact DGet.k (k := Sum.inr z) hq2), _, rfl, ?_⟩
            refine ite2 (fun _ => ?_) (fun g => absurd rfl g)
            refine ⟨_, rfl, tt, _, 0, .str "request", rfl, rfl, SqT.of htt16, rfl, rfl, _, rfl, ?_⟩
            refine ite2 (fun g => (ne_self g).elim) (fun _ => ?_)
            refine ⟨_, rfl, tt, _, 1, _, rfl, rfl, SqT.of htt16, rfl, _, rfl, _, fun a => a ≠ d, rfl, hN16, fun H17 s17 => ⟨_, rfl, ?_⟩⟩
            refine ite2 (fun g => nomatch g) (fun _ => ?_)
            exact ⟨rfl, s1416.trans s17⟩
    rintro σ' H17 ⟨rfl, s17⟩
    have X17 := X14.keep D14 (same_keep s17)
    have D17 := D14.same s17
    have hov17 : IntT H17 ov off' := IntT.firm _ _ _ _ (same_tups s17) hov14
    refine ⟨_, rfl, _, rfl, _, rfl, l, _, 0, .str z0, rfl, rfl, SqL.of X17.nm, atI_nat hz0', ?_⟩
    refine ⟨x, S, ov, .str z0, "str", rfl, ok, X17.sys.at, thg_ints hov17, .blt rfl, ?_, fun hno => absurd ⟨off', hov17, O⟩ hno, fun _ hno => absurd (List.mem_map.mpr ⟨_, hmS, rfl⟩) (hno z0 rfl)⟩
    rintro off2 z row2 hv2 O2 ez hm2 t2 H18 s18 hA2
    obtain rfl := intT_fn hv2 hov17
    cases ez
    obtain rfl := row_fn ok.nd hm2 hmS
    have hA18 : AfterIs S off2 row2 tb H18 := by
      obtain ⟨tv, h1, h2⟩ := hA14
      exact ⟨tv, s18 _ _ (s17 _ _ h1), IntT.firm _ _ _ _ (same_tups (s17.trans s18)) h2⟩
    refine ⟨_, rfl, _, _, after_dp hA2, after_dp hA18, pD_shaped _ _ _, pD_shaped _ _ _, ?_⟩
    rw [SeqAt.eqv_refl _ (Bool.and_eq_true_iff.mp (pD_shaped _ _ _)).1]
    exact k _ (((k09.trans k14).trans (same_keep s17)).trans (same_keep s18)) (D17.same s18)
end
end Toy

namespace Toy
open PySem PySem.Spec PyProof.Rows L2
local macro_rules | `(tactic| walk_at "hp") => `(tactic| first
  | assumption
  | exact upd_same
  | (refine Eq.trans (upd_ne (by first | assumption | (apply Ne.symm; assumption))) ?_; walk_at "hp"))
local macro_rules | `(tactic| walk_at "side") => `(tactic| first
  | exact .inl ⟨by omega, by omega⟩
  | exact .inr ⟨by omega, by omega⟩
  | exact ⟨by omega, by omega⟩
  | (show _ ≤ _; omega)
  | (show (_ : Int) < _; omega)
  | decide
  | assumption)
local macro_rules | `(tactic| walk_at "r") => `(tactic| first
  | refine ⟨_, rfl, ?_⟩
  | refine ⟨_, _, rfl, rfl, ?_⟩
  | refine ⟨_, _, _, _, rfl, rfl, SqL.of (by walk_at "hp"), rfl, ?_⟩
  | refine ⟨_, _, _, _, rfl, rfl, SqT.of (by walk_at "hp"), rfl, ?_⟩
  | refine ⟨_, _, _, _, rfl, rfl, (by walk_at "hp"), rfl, ?_⟩
  | refine And.intro rfl ?_
  | refine ⟨_, _, rfl, SqT.of (by walk_at "hp"), ?_⟩
  | refine ⟨_, _, rfl, SqL.of (by walk_at "hp"), ?_⟩
  | refine .inl ⟨_, rfl, ?_⟩
  | refine ⟨_, _, rfl, .inl (SqL.of (by walk_at "hp")), ?_⟩
  | refine ⟨_, _, rfl, .inr (SqT.of (by walk_at "hp")), ?_⟩
  | refine ⟨_, _, rfl, .inl ⟨SqL.of (by walk_at "hp"), ?_⟩⟩
  | refine And.intro (.inl ⟨rfl, _, SqL.of (by walk_at "hp")⟩) ?_
  | refine ⟨_, _, _, rfl, rfl, (by walk_at "hp"), ?_⟩
  | refine ⟨_, _, rfl, (by walk_at "hp"), ?_⟩
  | refine And.intro (by walk_at "side") ?_)
local macro_rules | `(tactic| walk_at "rr") => `(tactic| (repeat walk_at "r"))
local macro_rules | `(tactic| walk_at "k") => `(tactic| first
  | refine ite2 (fun _ => ?_) (fun g => absurd rfl g)
  | refine ite2 (fun g => absurd g (by decide)) (fun _ => ?_)
  | refine ite2 (fun _ => ?_) (fun g => absurd (decide_eq_true (by omega)) g)
  | refine ite2 (fun g => absurd (of_decide_eq_true g) (by omega)) (fun _ => ?_)
  | refine ite2 (fun g => (nd_t g (by omega)).elim) (fun _ => ?_)
  | refine ite2 (fun _ => ?_) (fun g => absurd (nd_f g) (by omega)))
local macro_rules | `(tactic| walk_at "rk") => `(tactic| (repeat (first | walk_at "r" | walk_at "k")))
section
variable {P : Program} {w : World} {K : PySem.W.Frag} {mg : Str → Option Value} {base : Heap}
def spLaw (K : PySem.W.Frag) : Sp := fun vs H Q _ => ∃ (a : Addr) (ns : List Int), vs = [.ref a] ∧ SqL K H a (ns.map V.int) ∧ ns.length ≤ 63 ∧ ∀ H', Q (.bl true) H'
theorem okf_law (T : Top K mg) {f : Addr} {fd : FuncData} (F : Fun K "law" "law" s_law f fd) : FnOk P w K mg base CX0 10 f fd ["script"] (spLaw K) := by
  refine F.ok sc_law (fun vs H Q E h => ?_) (fun cdv A outer s H vs Q E hr h => ?_)
  · obtain ⟨a, ns, rfl, _⟩ := h
    rfl
  · obtain ⟨a, ns, rfl, hS, hlen, k⟩ := h
    obtain ⟨f__law_dice, fd__law_dice, m__law_dice, k__law_dice, b__law_dice, G__law_dice⟩ := ok__law_dice (P := P) (w := w) (base := base) T
    have hr__law_dice : Room 1 _ := hr.mono (by decide)
    obtain ⟨f__law_things_judged, fd__law_things_judged, m__law_things_judged, k__law_things_judged, b__law_things_judged, G__law_things_judged⟩ := ok__law_things_judged (P := P) (w := w) (base := base) T
    have hr__law_things_judged : Room 9 _ := hr.mono (by decide)
    obtain ⟨f__law_offsets_follow, fd__law_offsets_follow, m__law_offsets_follow, k__law_offsets_follow, b__law_offsets_follow, G__law_offsets_follow⟩ := ok__law_offsets_follow (P := P) (w := w) (base := base) T
    have hr__law_offsets_follow : Room 9 _ := hr.mono (by decide)
    refine ⟨_, (pss_cons (ps_set (i := 1) sc_law.nd rfl (Or.inl rfl) (pe_call G__law_dice hr__law_dice rfl m__law_dice k__law_dice b__law_dice .nil pass0 (pa_cons (pv 0) pa_nil)))
      (pss_one (ps_ret (pe_and (pe_call G__law_offsets_follow hr__law_offsets_follow rfl m__law_offsets_follow k__law_offsets_follow b__law_offsets_follow .nil pass0 (pa_cons (pv 1) pa_nil)) (pe_one (pe_call G__law_things_judged hr__law_things_judged rfl m__law_things_judged k__law_things_judged b__law_things_judged .nil pass0 (pa_cons (pv 1) pa_nil))))))), ?_⟩
    refine ⟨_, rfl, a, ns, rfl, hS, hlen, fun d c H1 s1 nd nc D1 => ?_⟩
    refine ⟨_, rfl, d, c, rfl, D1, fun H2 k2 D2 => ?_⟩
    refine ⟨_, rfl, ?_⟩
    refine ite2 (fun _ => ?_) (fun g => absurd rfl g)
    exact ⟨_, rfl, d, c, rfl, D2, fun H3 _ _ => k _⟩
end
end Toy

set_option maxHeartbeats 0
namespace Toy
open PySem PySem.Spec PyProof.Rows L2
section
variable {K : PySem.W.Frag} {h : Heap} {mg : Str → Option Value}
theorem fun_of {x qual : Str} {st : Stmt} {f : Addr} {fd : FuncData} (F : FunD K x qual (defArgs st) (defBody st) (defScope st) [] [] f fd) : Fun K x qual st f fd := by
  obtain ⟨oc, od, dV, kV, doc, pm, an, cdv, ct, osl, rfl, lk, hcd, hD, hK⟩ := F.ex
  rcases hD with ⟨_, rfl⟩ | ⟨e, _⟩
  · exact ⟨⟨oc, od, kV, doc, pm, an, cdv, ct, osl, rfl, lk, hcd⟩, F.kp⟩
  · exact absurd rfl e
theorem def_at {x : Str} {st : Stmt} {ps : List Str} (X : K.In h) (G : h.Ns mainGlobals mg) (g : (He.Fa.glo x).ok K = true) (c : ∃ fd, FunD K x x (defArgs st) (defBody st) (defScope st) [] [] (He.ga K x) fd)
    (hb : ∀ (kV doc pm : Value) (an : Option Addr) (cdv ct : Value) (us : List Value), us.length = ps.length → bindArgs (PySem.W.fnOf x x (defArgs st) (defBody st) (defScope st) .none kV doc pm an cdv ct) ⟨us, []⟩ = pure (ps.zip us)) : DefAt K mg x st ps := by
  obtain ⟨fd, F⟩ := c
  exact ⟨_, fd, He.glo_ok X G g, fun_of F, (fun_of F).binds hb⟩
theorem init_at {C qual : Str} {st : Stmt} {ps : List Str} (g : (He.Fa.mkr C).ok K = true) (c : ∃ fd, FunD K "__init__" qual (defArgs st) (defBody st) (defScope st) [] [] (He.ma K (He.ga K C) "__init__") fd)
    (hb : ∀ (kV doc pm : Value) (an : Option Addr) (cdv ct : Value) (us : List Value), us.length = ps.length → bindArgs (PySem.W.fnOf "__init__" qual (defArgs st) (defBody st) (defScope st) .none kV doc pm an cdv ct) ⟨us, []⟩ = pure (ps.zip us)) : ClsInit K (He.ga K C) qual st ps := by
  obtain ⟨fd, F⟩ := c
  exact ⟨_, fd, He.mkr_ok g, fun_of F, (fun_of F).binds hb⟩
theorem meth_at {C m qual : Str} {st : Stmt} {ps : List Str} (g : (He.Fa.meth C m).ok K = true) (c : ∃ fd, FunD K m qual (defArgs st) (defBody st) (defScope st) [] [] (He.ma K (He.ga K C) m) fd)
    (hb : ∀ (kV doc pm : Value) (an : Option Addr) (cdv ct : Value) (us : List Value), us.length = ps.length → bindArgs (PySem.W.fnOf m qual (defArgs st) (defBody st) (defScope st) .none kV doc pm an cdv ct) ⟨us, []⟩ = pure (ps.zip us)) : MethAt K (He.ga K C) m qual st ps := by
  obtain ⟨fd, F⟩ := c
  exact ⟨_, fd, He.meth_ok g, fun_of F, (fun_of F).binds hb⟩
theorem typeFn {a : Addr} (h : PySem.W.isFn K (.ref a) = true) : PySem.W.typeIn K (.ref a) = some (.type "function") := by
  first | exact eq_of_beq h | simpa [PySem.W.isFn] using h
theorem exc_at {x f q : Str} {st : Stmt} (X : K.In h) (G : h.Ns mainGlobals mg) (g : (He.Fa.glo x).ok K = true) (e : oexB K (He.ga K x) = true) (n : (He.Fa.noat x f).ok K = true) (m : (He.Fa.meth x "__init__").ok K = true)
    (c : ∃ fd, FunD K "__init__" q (defArgs st) (defBody st) (defScope st) [] [] (He.ma K (He.ga K x) "__init__") fd)
    (hb : ∀ (kV doc pm : Value) (an : Option Addr) (cdv ct : Value) (us : List Value), us.length = (["self", f] : List Str).length → bindArgs (PySem.W.fnOf "__init__" q (defArgs st) (defBody st) (defScope st) .none kV doc pm an cdv ct) ⟨us, []⟩ = pure ((["self", f] : List Str).zip us)) : ExcAt K mg x (He.ga K x) f st := by
  obtain ⟨fd, F⟩ := c
  have M := He.meth_ok m
  have o := oexB_ok e
  exact ⟨He.glo_ok X G g, o.1, o.2, (He.noat_ok n), ⟨_, fd, q, M.at_, typeFn M.fn, fun_of F, (fun_of F).binds hb⟩⟩
end
/-! the head -/
def hds_NoPostZ_initZ : He.DefD := ⟨("NoPost", some "__init__"), "__init__", "NoPost.__init__", defArgs s_NoPostZ_initZ, defBody s_NoPostZ_initZ, defScope s_NoPostZ_initZ, [], []⟩
def hds_NoRequestZ_initZ : He.DefD := ⟨("NoRequest", some "__init__"), "__init__", "NoRequest.__init__", defArgs s_NoRequestZ_initZ, defBody s_NoRequestZ_initZ, defScope s_NoRequestZ_initZ, [], []⟩
def hds_is_integer : He.DefD := ⟨("is_integer", none), "is_integer", "is_integer", defArgs s_is_integer, defBody s_is_integer, defScope s_is_integer, [], []⟩
def hds_is_natural : He.DefD := ⟨("is_natural", none), "is_natural", "is_natural", defArgs s_is_natural, defBody s_is_natural, defScope s_is_natural, [], []⟩
def hds_is_below : He.DefD := ⟨("is_below", none), "is_below", "is_below", defArgs s_is_below, defBody s_is_below, defScope s_is_below, [], []⟩
def hds_is_tuple_of : He.DefD := ⟨("is_tuple_of", none), "is_tuple_of", "is_tuple_of", defArgs s_is_tuple_of, defBody s_is_tuple_of, defScope s_is_tuple_of, [], []⟩
def hds_is_name : He.DefD := ⟨("is_name", none), "is_name", "is_name", defArgs s_is_name, defBody s_is_name, defScope s_is_name, [], []⟩
def hds_is_known : He.DefD := ⟨("is_known", none), "is_known", "is_known", defArgs s_is_known, defBody s_is_known, defScope s_is_known, [], []⟩
def hds_is_offsets : He.DefD := ⟨("is_offsets", none), "is_offsets", "is_offsets", defArgs s_is_offsets, defBody s_is_offsets, defScope s_is_offsets, [], []⟩
def hds_first_offsets : He.DefD := ⟨("first_offsets", none), "first_offsets", "first_offsets", defArgs s_first_offsets, defBody s_first_offsets, defScope s_first_offsets, [], []⟩
def hds_risen : He.DefD := ⟨("risen", none), "risen", "risen", defArgs s_risen, defBody s_risen, defScope s_risen, [], []⟩
def hds_after_request : He.DefD := ⟨("after_request", none), "after_request", "after_request", defArgs s_after_request, defBody s_after_request, defScope s_after_request, [], []⟩
def hds__is_price : He.DefD := ⟨("_is_price", none), "_is_price", "_is_price", defArgs s__is_price, defBody s__is_price, defScope s__is_price, [], []⟩
def hds_is_moves : He.DefD := ⟨("is_moves", none), "is_moves", "is_moves", defArgs s_is_moves, defBody s_is_moves, defScope s_is_moves, [], []⟩
def hds__is_prices : He.DefD := ⟨("_is_prices", none), "_is_prices", "_is_prices", defArgs s__is_prices, defBody s__is_prices, defScope s__is_prices, [], []⟩
def hds__is_requests : He.DefD := ⟨("_is_requests", none), "_is_requests", "_is_requests", defArgs s__is_requests, defBody s__is_requests, defScope s__is_requests, [], []⟩
def hds_least_ways : He.DefD := ⟨("least_ways", none), "least_ways", "least_ways", defArgs s_least_ways, defBody s_least_ways, defScope s_least_ways, [], []⟩
def hds_SystemZ_initZ : He.DefD := ⟨("System", some "__init__"), "__init__", "System.__init__", defArgs s_SystemZ_initZ, defBody s_SystemZ_initZ, defScope s_SystemZ_initZ, [], []⟩
def hds_SystemZ_eqZ : He.DefD := ⟨("System", some "__eq__"), "__eq__", "System.__eq__", defArgs s_SystemZ_eqZ, defBody s_SystemZ_eqZ, defScope s_SystemZ_eqZ, [], []⟩
def hds_System_prices : He.DefD := ⟨("System", some "prices"), "prices", "System.prices", defArgs s_System_prices, defBody s_System_prices, defScope s_System_prices, [], []⟩
def hds__law_dice : He.DefD := ⟨("_law_dice", none), "_law_dice", "_law_dice", defArgs s__law_dice, defBody s__law_dice, defScope s__law_dice, [], []⟩
def hds__law_draw : He.DefD := ⟨("_law_draw", none), "_law_draw", "_law_draw", defArgs s__law_draw, defBody s__law_draw, defScope s__law_draw, [], []⟩
def hds__law_word : He.DefD := ⟨("_law_word", none), "_law_word", "_law_word", defArgs s__law_word, defBody s__law_word, defScope s__law_word, [], []⟩
def hds__law_names : He.DefD := ⟨("_law_names", none), "_law_names", "_law_names", defArgs s__law_names, defBody s__law_names, defScope s__law_names, [], []⟩
def hds__law_moves : He.DefD := ⟨("_law_moves", none), "_law_moves", "_law_moves", defArgs s__law_moves, defBody s__law_moves, defScope s__law_moves, [], []⟩
def hds__law_prices : He.DefD := ⟨("_law_prices", none), "_law_prices", "_law_prices", defArgs s__law_prices, defBody s__law_prices, defScope s__law_prices, [], []⟩
def hds__law_requests : He.DefD := ⟨("_law_requests", none), "_law_requests", "_law_requests", defArgs s__law_requests, defBody s__law_requests, defScope s__law_requests, [], []⟩
def hds__law_is_integer : He.DefD := ⟨("_law_is_integer", none), "_law_is_integer", "_law_is_integer", defArgs s__law_is_integer, defBody s__law_is_integer, defScope s__law_is_integer, [], []⟩
def hds__law_ways : He.DefD := ⟨("_law_ways", none), "_law_ways", "_law_ways", defArgs s__law_ways, defBody s__law_ways, defScope s__law_ways, [], []⟩
def hds__law_offsets : He.DefD := ⟨("_law_offsets", none), "_law_offsets", "_law_offsets", defArgs s__law_offsets, defBody s__law_offsets, defScope s__law_offsets, [], []⟩
def hds__law_least : He.DefD := ⟨("_law_least", none), "_law_least", "_law_least", defArgs s__law_least, defBody s__law_least, defScope s__law_least, [], []⟩
def hds__law_right : He.DefD := ⟨("_law_right", none), "_law_right", "_law_right", defArgs s__law_right, defBody s__law_right, defScope s__law_right, [], []⟩
def hds__law_offsets_follow : He.DefD := ⟨("_law_offsets_follow", none), "_law_offsets_follow", "_law_offsets_follow", defArgs s__law_offsets_follow, defBody s__law_offsets_follow, defScope s__law_offsets_follow, [], []⟩
def hds__law_odd : He.DefD := ⟨("_law_odd", none), "_law_odd", "_law_odd", defArgs s__law_odd, defBody s__law_odd, defScope s__law_odd, [], []⟩
def hds__law_spoiled : He.DefD := ⟨("_law_spoiled", none), "_law_spoiled", "_law_spoiled", defArgs s__law_spoiled, defBody s__law_spoiled, defScope s__law_spoiled, [], []⟩
def hds__law_are_offsets : He.DefD := ⟨("_law_are_offsets", none), "_law_are_offsets", "_law_are_offsets", defArgs s__law_are_offsets, defBody s__law_are_offsets, defScope s__law_are_offsets, [], []⟩
def hds__law_told_after : He.DefD := ⟨("_law_told_after", none), "_law_told_after", "_law_told_after", defArgs s__law_told_after, defBody s__law_told_after, defScope s__law_told_after, [], []⟩
def hds__law_same : He.DefD := ⟨("_law_same", none), "_law_same", "_law_same", defArgs s__law_same, defBody s__law_same, defScope s__law_same, [], []⟩
def hds__law_things_judged : He.DefD := ⟨("_law_things_judged", none), "_law_things_judged", "_law_things_judged", defArgs s__law_things_judged, defBody s__law_things_judged, defScope s__law_things_judged, [], []⟩
def hds_law : He.DefD := ⟨("law", none), "law", "law", defArgs s_law, defBody s_law, defScope s_law, [], []⟩
def hfn0 : List He.DefD := [hds_NoPostZ_initZ, hds_NoRequestZ_initZ, hds_is_integer, hds_is_natural, hds_is_below, hds_is_tuple_of, hds_is_name, hds_is_known, hds_is_offsets, hds_first_offsets, hds_risen, hds_after_request, hds__is_price, hds_is_moves, hds__is_prices, hds__is_requests, hds_least_ways, hds_SystemZ_initZ, hds_SystemZ_eqZ, hds_System_prices, hds__law_dice, hds__law_draw, hds__law_word, hds__law_names, hds__law_moves, hds__law_prices, hds__law_requests, hds__law_is_integer, hds__law_ways, hds__law_offsets]
def hfn1 : List He.DefD := [hds__law_least, hds__law_right, hds__law_offsets_follow, hds__law_odd, hds__law_spoiled, hds__law_are_offsets, hds__law_told_after, hds__law_same, hds__law_things_judged, hds_law]
def hfn : List He.DefD := hfn0 ++ hfn1
def hfa0 : List He.Fa := [.free "abs", .free "all", .free "any", .free "bool", .free "dict", .free "enumerate", .free "int", .free "isinstance", .free "len", .free "list", .free "min", .free "range", .free "sorted", .free "str", .free "tuple", .free "zip", .str "LETTERS" "abcdefghijklmnopqrstuvwxyz", .int "MOST_POSTS" 6, .int "MOST_PRICE" 9, .int "MOST_REQUESTS" 5, .glo "is_integer", .glo "is_natural", .glo "is_below", .glo "is_tuple_of", .glo "is_name", .glo "is_known", .glo "is_offsets", .glo "first_offsets", .glo "risen", .glo "after_request"]
def hfa1 : List He.Fa := [.glo "_is_price", .glo "is_moves", .glo "_is_prices", .glo "_is_requests", .glo "least_ways", .glo "_law_dice", .glo "_law_draw", .glo "_law_word", .glo "_law_names", .glo "_law_moves", .glo "_law_prices", .glo "_law_requests", .glo "_law_is_integer", .glo "_law_ways", .glo "_law_offsets", .glo "_law_least", .glo "_law_right", .glo "_law_offsets_follow", .glo "_law_odd", .glo "_law_spoiled", .glo "_law_are_offsets", .glo "_law_told_after", .glo "_law_same", .glo "_law_things_judged", .glo "law", .glo "NoRequest", .noat "NoRequest" "name", .meth "NoRequest" "__init__", .glo "BadOffsets", .exm "BadOffsets" "BadOffsets" true]
def hfa2 : List He.Fa := [.exm "NoRequest" "BadOffsets" false, .exm "NoRequest" "NoRequest" true, .cls "System", .glo "System", .noat "System" "moves", .noat "System" "posts", .noat "System" "names", .noat "System" "ways", .noat "System" "_requests", .mkr "System", .meth "System" "__eq__", .meth "System" "prices"]
def hfa : List He.Fa := hfa0 ++ hfa1 ++ hfa2
def hnames0 : List Str := ["__name__", "HintError", "BadSystem", "NoPost", "NoRequest", "BadOffsets", "LETTERS", "is_integer", "is_natural", "is_below", "is_tuple_of", "is_name", "is_known", "is_offsets", "first_offsets", "risen", "after_request", "MOST_POSTS", "MOST_REQUESTS", "MOST_PRICE", "_is_price", "is_moves", "_is_prices", "_is_requests", "least_ways", "System", "_law_dice", "_law_draw", "_law_word", "_law_names"]
def hnames1 : List Str := ["_law_moves", "_law_prices", "_law_requests", "_law_is_integer", "_law_ways", "_law_offsets", "_law_least", "_law_right", "_law_offsets_follow", "_law_odd", "_law_spoiled", "_law_are_offsets", "_law_told_after", "_law_same", "_law_things_judged"]
def hnames : List Str := hnames0 ++ hnames1
def hex : List Str := ["NoRequest"]
def hexE : List Str := ["BadOffsets"]
def hexI : List Str := ["System"]
abbrev hexB : PySem.W.Frag → Bool := fun K => (hex.all fun x => oexB K (He.ga K x)) && ((hexE.all fun x => errB K (He.ga K x)) && hexI.all fun x => insB K (He.ga K x))
theorem hflag {K : PySem.W.Frag} (e : hexB K = true) (i : Nat) {x : Str} (h : hex[i]? = some x) : oexB K (He.ga K x) = true := List.all_eq_true.mp (Bool.and_eq_true_iff.mp e).1 x (List.mem_of_getElem? h)
theorem hflagE {K : PySem.W.Frag} (e : hexB K = true) (i : Nat) {x : Str} (h : hexE[i]? = some x) : errB K (He.ga K x) = true := List.all_eq_true.mp (Bool.and_eq_true_iff.mp (Bool.and_eq_true_iff.mp e).2).1 x (List.mem_of_getElem? h)
theorem hflagI {K : PySem.W.Frag} (e : hexB K = true) (i : Nat) {x : Str} (h : hexI[i]? = some x) : insB K (He.ga K x) = true := List.all_eq_true.mp (Bool.and_eq_true_iff.mp (Bool.and_eq_true_iff.mp e).2).2 x (List.mem_of_getElem? h)
def top_of {K : PySem.W.Frag} {h : Heap} {mg : Str → Option Value} (X : K.In h) (G : h.Ns mainGlobals mg) (c : He.SaysD hfa hfn K) (ex : hexB K = true) : Top K mg where
  b_abs := He.free_ok X G (c.fact 0 (f := .free "abs") rfl)
  b_all := He.free_ok X G (c.fact 1 (f := .free "all") rfl)
  b_any := He.free_ok X G (c.fact 2 (f := .free "any") rfl)
  b_bool := He.free_ok X G (c.fact 3 (f := .free "bool") rfl)
  b_dict := He.free_ok X G (c.fact 4 (f := .free "dict") rfl)
  b_enumerate := He.free_ok X G (c.fact 5 (f := .free "enumerate") rfl)
  b_int := He.free_ok X G (c.fact 6 (f := .free "int") rfl)
  b_isinstance := He.free_ok X G (c.fact 7 (f := .free "isinstance") rfl)
  b_len := He.free_ok X G (c.fact 8 (f := .free "len") rfl)
  b_list := He.free_ok X G (c.fact 9 (f := .free "list") rfl)
  b_min := He.free_ok X G (c.fact 10 (f := .free "min") rfl)
  b_range := He.free_ok X G (c.fact 11 (f := .free "range") rfl)
  b_sorted := He.free_ok X G (c.fact 12 (f := .free "sorted") rfl)
  b_str := He.free_ok X G (c.fact 13 (f := .free "str") rfl)
  b_tuple := He.free_ok X G (c.fact 14 (f := .free "tuple") rfl)
  b_zip := He.free_ok X G (c.fact 15 (f := .free "zip") rfl)
  g_LETTERS := He.str_ok X G (c.fact 16 (f := .str "LETTERS" "abcdefghijklmnopqrstuvwxyz") rfl)
  g_MOST_POSTS := He.int_ok X G (c.fact 17 (f := .int "MOST_POSTS" 6) rfl)
  g_MOST_PRICE := He.int_ok X G (c.fact 18 (f := .int "MOST_PRICE" 9) rfl)
  g_MOST_REQUESTS := He.int_ok X G (c.fact 19 (f := .int "MOST_REQUESTS" 5) rfl)
  d_is_integer := def_at X G (c.fact 20 (f := .glo "is_integer") rfl) (c.def_ 2 (d := hds_is_integer) rfl) (fun _ _ _ _ _ _ us hl => match us, hl with | [_], _ => rfl)
  d_is_natural := def_at X G (c.fact 21 (f := .glo "is_natural") rfl) (c.def_ 3 (d := hds_is_natural) rfl) (fun _ _ _ _ _ _ us hl => match us, hl with | [_], _ => rfl)
  d_is_below := def_at X G (c.fact 22 (f := .glo "is_below") rfl) (c.def_ 4 (d := hds_is_below) rfl) (fun _ _ _ _ _ _ us hl => match us, hl with | [_, _], _ => rfl)
  d_is_tuple_of := def_at X G (c.fact 23 (f := .glo "is_tuple_of") rfl) (c.def_ 5 (d := hds_is_tuple_of) rfl) (fun _ _ _ _ _ _ us hl => match us, hl with | [_, _], _ => rfl)
  d_is_name := def_at X G (c.fact 24 (f := .glo "is_name") rfl) (c.def_ 6 (d := hds_is_name) rfl) (fun _ _ _ _ _ _ us hl => match us, hl with | [_], _ => rfl)
  d_is_known := def_at X G (c.fact 25 (f := .glo "is_known") rfl) (c.def_ 7 (d := hds_is_known) rfl) (fun _ _ _ _ _ _ us hl => match us, hl with | [_, _], _ => rfl)
  d_is_offsets := def_at X G (c.fact 26 (f := .glo "is_offsets") rfl) (c.def_ 8 (d := hds_is_offsets) rfl) (fun _ _ _ _ _ _ us hl => match us, hl with | [_, _], _ => rfl)
  d_first_offsets := def_at X G (c.fact 27 (f := .glo "first_offsets") rfl) (c.def_ 9 (d := hds_first_offsets) rfl) (fun _ _ _ _ _ _ us hl => match us, hl with | [_], _ => rfl)
  d_risen := def_at X G (c.fact 28 (f := .glo "risen") rfl) (c.def_ 10 (d := hds_risen) rfl) (fun _ _ _ _ _ _ us hl => match us, hl with | [_, _, _], _ => rfl)
  d_after_request := def_at X G (c.fact 29 (f := .glo "after_request") rfl) (c.def_ 11 (d := hds_after_request) rfl) (fun _ _ _ _ _ _ us hl => match us, hl with | [_, _, _], _ => rfl)
  d__is_price := def_at X G (c.fact 30 (f := .glo "_is_price") rfl) (c.def_ 12 (d := hds__is_price) rfl) (fun _ _ _ _ _ _ us hl => match us, hl with | [_], _ => rfl)
  d_is_moves := def_at X G (c.fact 31 (f := .glo "is_moves") rfl) (c.def_ 13 (d := hds_is_moves) rfl) (fun _ _ _ _ _ _ us hl => match us, hl with | [_], _ => rfl)
  d__is_prices := def_at X G (c.fact 32 (f := .glo "_is_prices") rfl) (c.def_ 14 (d := hds__is_prices) rfl) (fun _ _ _ _ _ _ us hl => match us, hl with | [_, _], _ => rfl)
  d__is_requests := def_at X G (c.fact 33 (f := .glo "_is_requests") rfl) (c.def_ 15 (d := hds__is_requests) rfl) (fun _ _ _ _ _ _ us hl => match us, hl with | [_, _], _ => rfl)
  d_least_ways := def_at X G (c.fact 34 (f := .glo "least_ways") rfl) (c.def_ 16 (d := hds_least_ways) rfl) (fun _ _ _ _ _ _ us hl => match us, hl with | [_], _ => rfl)
  d__law_dice := def_at X G (c.fact 35 (f := .glo "_law_dice") rfl) (c.def_ 20 (d := hds__law_dice) rfl) (fun _ _ _ _ _ _ us hl => match us, hl with | [_], _ => rfl)
  d__law_draw := def_at X G (c.fact 36 (f := .glo "_law_draw") rfl) (c.def_ 21 (d := hds__law_draw) rfl) (fun _ _ _ _ _ _ us hl => match us, hl with | [_, _], _ => rfl)
  d__law_word := def_at X G (c.fact 37 (f := .glo "_law_word") rfl) (c.def_ 22 (d := hds__law_word) rfl) (fun _ _ _ _ _ _ us hl => match us, hl with | [_, _], _ => rfl)
  d__law_names := def_at X G (c.fact 38 (f := .glo "_law_names") rfl) (c.def_ 23 (d := hds__law_names) rfl) (fun _ _ _ _ _ _ us hl => match us, hl with | [_, _, _], _ => rfl)
  d__law_moves := def_at X G (c.fact 39 (f := .glo "_law_moves") rfl) (c.def_ 24 (d := hds__law_moves) rfl) (fun _ _ _ _ _ _ us hl => match us, hl with | [_, _, _], _ => rfl)
  d__law_prices := def_at X G (c.fact 40 (f := .glo "_law_prices") rfl) (c.def_ 25 (d := hds__law_prices) rfl) (fun _ _ _ _ _ _ us hl => match us, hl with | [_, _, _], _ => rfl)
  d__law_requests := def_at X G (c.fact 41 (f := .glo "_law_requests") rfl) (c.def_ 26 (d := hds__law_requests) rfl) (fun _ _ _ _ _ _ us hl => match us, hl with | [_, _, _, _], _ => rfl)
  d__law_is_integer := def_at X G (c.fact 42 (f := .glo "_law_is_integer") rfl) (c.def_ 27 (d := hds__law_is_integer) rfl) (fun _ _ _ _ _ _ us hl => match us, hl with | [_], _ => rfl)
  d__law_ways := def_at X G (c.fact 43 (f := .glo "_law_ways") rfl) (c.def_ 28 (d := hds__law_ways) rfl) (fun _ _ _ _ _ _ us hl => match us, hl with | [_], _ => rfl)
  d__law_offsets := def_at X G (c.fact 44 (f := .glo "_law_offsets") rfl) (c.def_ 29 (d := hds__law_offsets) rfl) (fun _ _ _ _ _ _ us hl => match us, hl with | [_, _, _], _ => rfl)
  d__law_least := def_at X G (c.fact 45 (f := .glo "_law_least") rfl) (c.def_ 30 (d := hds__law_least) rfl) (fun _ _ _ _ _ _ us hl => match us, hl with | [_, _], _ => rfl)
  d__law_right := def_at X G (c.fact 46 (f := .glo "_law_right") rfl) (c.def_ 31 (d := hds__law_right) rfl) (fun _ _ _ _ _ _ us hl => match us, hl with | [_, _, _, _], _ => rfl)
  d__law_offsets_follow := def_at X G (c.fact 47 (f := .glo "_law_offsets_follow") rfl) (c.def_ 32 (d := hds__law_offsets_follow) rfl) (fun _ _ _ _ _ _ us hl => match us, hl with | [_], _ => rfl)
  d__law_odd := def_at X G (c.fact 48 (f := .glo "_law_odd") rfl) (c.def_ 33 (d := hds__law_odd) rfl) (fun _ _ _ _ _ _ us hl => match us, hl with | [_], _ => rfl)
  d__law_spoiled := def_at X G (c.fact 49 (f := .glo "_law_spoiled") rfl) (c.def_ 34 (d := hds__law_spoiled) rfl) (fun _ _ _ _ _ _ us hl => match us, hl with | [_, _], _ => rfl)
  d__law_are_offsets := def_at X G (c.fact 50 (f := .glo "_law_are_offsets") rfl) (c.def_ 35 (d := hds__law_are_offsets) rfl) (fun _ _ _ _ _ _ us hl => match us, hl with | [_, _], _ => rfl)
  d__law_told_after := def_at X G (c.fact 51 (f := .glo "_law_told_after") rfl) (c.def_ 36 (d := hds__law_told_after) rfl) (fun _ _ _ _ _ _ us hl => match us, hl with | [_, _, _], _ => rfl)
  d__law_same := def_at X G (c.fact 52 (f := .glo "_law_same") rfl) (c.def_ 37 (d := hds__law_same) rfl) (fun _ _ _ _ _ _ us hl => match us, hl with | [_, _], _ => rfl)
  d__law_things_judged := def_at X G (c.fact 53 (f := .glo "_law_things_judged") rfl) (c.def_ 38 (d := hds__law_things_judged) rfl) (fun _ _ _ _ _ _ us hl => match us, hl with | [_], _ => rfl)
  d_law := def_at X G (c.fact 54 (f := .glo "law") rfl) (c.def_ 39 (d := hds_law) rfl) (fun _ _ _ _ _ _ us hl => match us, hl with | [_], _ => rfl)
  c_NoRequest := He.ga K "NoRequest"
  x_NoRequest := exc_at X G (c.fact 55 (f := .glo "NoRequest") rfl) (hflag ex 0 (x := "NoRequest") rfl) (c.fact 56 (f := .noat "NoRequest" "name") rfl) (c.fact 57 (f := .meth "NoRequest" "__init__") rfl) (c.def_ 1 (d := hds_NoRequestZ_initZ) rfl) (fun _ _ _ _ _ _ us hl => match us, hl with | [_, _], _ => rfl)
  c_BadOffsets := He.ga K "BadOffsets"
  mg_BadOffsets := He.glo_ok X G (c.fact 58 (f := .glo "BadOffsets") rfl)
  y_BadOffsets := errX_ok (hflagE ex 0 (x := "BadOffsets") rfl)
  e_BadOffsets_BadOffsets := He.exm_ok (c.fact 59 (f := .exm "BadOffsets" "BadOffsets" true) rfl)
  e_NoRequest_BadOffsets := He.exm_ok (c.fact 60 (f := .exm "NoRequest" "BadOffsets" false) rfl)
  e_NoRequest_NoRequest := He.exm_ok (c.fact 61 (f := .exm "NoRequest" "NoRequest" true) rfl)
  c_System := He.ga K "System"
  cl_System := He.cls_ok (c.fact 62 (f := .cls "System") rfl)
  mg_System := He.glo_ok X G (c.fact 63 (f := .glo "System") rfl)
  I_System := insB_ok (hflagI ex 0 (x := "System") rfl)
  na_System_moves := He.noat_ok (c.fact 64 (f := .noat "System" "moves") rfl)
  na_System_posts := He.noat_ok (c.fact 65 (f := .noat "System" "posts") rfl)
  na_System_names := He.noat_ok (c.fact 66 (f := .noat "System" "names") rfl)
  na_System_ways := He.noat_ok (c.fact 67 (f := .noat "System" "ways") rfl)
  na_System__requests := He.noat_ok (c.fact 68 (f := .noat "System" "_requests") rfl)
  i_System := init_at (c.fact 69 (f := .mkr "System") rfl) (c.def_ 17 (d := hds_SystemZ_initZ) rfl) (fun _ _ _ _ _ _ us hl => match us, hl with | [_, _, _], _ => rfl)
  m_System___eq__ := meth_at (c.fact 70 (f := .meth "System" "__eq__") rfl) (c.def_ 18 (d := hds_SystemZ_eqZ) rfl) (fun _ _ _ _ _ _ us hl => match us, hl with | [_, _], _ => rfl)
  m_System_prices := meth_at (c.fact 71 (f := .meth "System" "prices") rfl) (c.def_ 19 (d := hds_System_prices) rfl) (fun _ _ _ _ _ _ us hl => match us, hl with | [_, _], _ => rfl)
abbrev hR : PySem.W.OpenRow := PySem.W.OpenLaw.row PySem.Challenge.rw_hintslie_k08_after_a_request
abbrev hhk : PySem.W.Hook := hookX 5 hfa hfn hexB
def hob (s : PySem.W.SharedT) : AlX := obsXG 5 hfa hfn hexB (HandSHeadRun.getT s)
theorem hob_eq (s : PySem.W.SharedT) : hob s = hhk.obs s.abs := obsXG_eq (HandSHeadRun.getT_eq s)
theorem hrun (w : World) : HandSHeadRun.RunEq hR (PySem.W.view hR.prog [49]) hhk hob 6000 hnames w := by
  intro os
  kernel_rfl
theorem facts {P : Program} {w : World} {K : PySem.W.Frag} {h : Heap} {mg : Str → Option Value} {f : Addr} (X : K.In h) (G : h.Ns mainGlobals mg) (hlw : mg ("law" : Str) = some (.ref f)) (c : He.SaysD hfa hfn K) (ex : hexB K = true) :
    ∃ fd : FuncData, (∀ (s : Shared) (v : Value), BindsTo s fd ⟨[v], []⟩ [("script", v)]) ∧ ∀ base : Heap, K.In base → base.Ns mainGlobals mg → FnOk P w K mg base CX0 10 f fd ["script"] (spLaw K) := by
  obtain ⟨fd, F⟩ := c.def_ 39 (d := hds_law) rfl
  have e := hlw.symm.trans (He.glo_ok X G (c.fact 54 (f := .glo "law") rfl))
  cases e
  have b := FunD.bindsA (ps := ["script"]) F fun _ _ _ _ _ _ us hl => match us, hl with | [_], _ => rfl
  exact ⟨fd, fun s v => b s [v] rfl, fun base _ _ => okf_law (top_of X G c ex) (fun_of F)⟩
end Toy
open PySem PySem.W PySem.Calls PyProof.Rows
theorem PySem.Challenge.cw_hintslie_k08_after_a_request_holds : PySem.Challenge.rw_hintslie_k08_after_a_request.Holds := by
  w_on; o_law
  refine HandSHeadRun.head_any (r := OpenLaw.row PySem.Challenge.rw_hintslie_k08_after_a_request) (q := view (OpenLaw.row PySem.Challenge.rw_hintslie_k08_after_a_request).prog [49]) (H := Toy.hhk) (ob := Toy.hob) (M := 6000) (loose := Toy.hnames) (d := HandSHeadRun.topDef (OpenLaw.row PySem.Challenge.rw_hintslie_k08_after_a_request).prog 49) (kwd := []) Toy.hob_eq
    (by kernel_rfl) (fun s => by kernel_rfl) Toy.hrun (by kernel_rfl) (by kernel_rfl) (by kernel_rfl) (by rfl) (by first | assumption | decide +kernel) (by decide +kernel) ⟨rfl, rfl, rfl, rfl, rfl, by decide +kernel⟩ ?hw ?hc
  case hw => w_witness2
  case hc =>
    refine L2.walk_ofE (l := PySem.Challenge.rw_hintslie_k08_after_a_request) (n := 63) (k := 10) (x := "script") (CX := L2.CX0) rfl (by decide) (by kernel_rfl) ⟨rfl, by decide, by decide⟩ ?F (fun _ _ _ _ z => z)
    intro w mg fa h Y G hmg0
    obtain ⟨K, KX, c, ex⟩ := Y
    have hmg : mg ("law" : PySem.Str) = some (.ref fa) := by
      have e : (HandSHeadRun.topDef (OpenLaw.row PySem.Challenge.rw_hintslie_k08_after_a_request).prog 49).name = ("law" : PySem.Str) := by kernel_rfl
      rw [← e]
      exact hmg0
    obtain ⟨fd, hb, hF⟩ := Toy.facts (P := (PySem.Challenge.rw_hintslie_k08_after_a_request).prog) (w := w) KX G hmg c ex
    exact ⟨K, fd, Toy.spLaw K, KX, hb, fun H a ns hl _ hS => ⟨a, ns, rfl, hS, hl, fun _ => rfl⟩, hF⟩


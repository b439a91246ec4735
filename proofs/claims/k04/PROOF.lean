import PyProof.Rows.All
import Wide.All
import OpenK.AllK
import Wide.FinOn
import HandS.ForMost
import HandS.OwnEq
import HandS.IsInst
import HandS.Codes
import HandS.Wide
import HandS.Replace
import HandS.NoneIn
import HandS.Flow
import HandS.Style
import KE.GoesZip
import KE.GoesMore
import KE.GoesEnum
import HandS.Walk
import KE.KDictZip
import HandS.DictComp
import HandS.Strs
import HandS.CallLocal
import HandS.NestedK
import HandS.StrMore
import HandS.FStr
import KE.KExcInit
import HandS.ExcInit
import HandS.ExcIs
import HandS.ExcField
import HandS.MakeKw
import PyProof.ExcBaseAll.LookupError
import HandS.RaiseMore
import HandS.TryMany
import HandS.CallSlots
import HandS.ClsMeth
import HandS.Set
import HandS.SetFor
import HandS.More
import PyProof.EqKinds
import HandS.Deep
import HandS.DeepEq
import HandS.Property
import HandS.Call
import HandS.Text
import HandS.TupLe
import HandS.ExcValue
import KE.KExcLine
import PySem.Challenge.RW_allrows_k04_clear_changes
set_option Elab.async false
set_option linter.all false
set_option maxRecDepth 100000
namespace LX
open PySem PySem.Spec PyProof.Rows L2 C8 SX
section
variable {X : Cx}
theorem call_list_str (hc : X.calm = true) : CallR X (.type "list") (fun (xs : List V) (H : Hp) (Q : VK) => ∃ l : List Nat, xs = [V.str (S l)] ∧ l.length ≤ sizeLine ∧ ∀ p, H p = none → Q (.ref p) (upd H p (.lst (l.map fun c => V.str (S [c]))))) := by
  intro pins s σ H xs us Q I r h
  obtain ⟨l, rfl, hl, q⟩ := h
  obtain ⟨u, rfl, ru⟩ := vals1 r
  obtain ⟨t, rfl⟩ := ru
  refine PySem.call_list_str (I.ok.hd hc) (S l) t (fun h' tk acc' c' hk hS hacc => ?_) (by simpa [S] using hl)
  have hv : Vals (l.map fun c => V.str (S [c])) acc'.toList := by
    obtain ⟨hsz, hit⟩ := hacc
    have hsz' : acc'.toList.length = l.length := by simpa using hsz
    have gen : ∀ (m : List Nat) (as : List Value), as.length = m.length → (∀ (j : Nat) (v : Value), as[j]? = some v → ∃ (c : Nat) (u : Tok), m[j]? = some c ∧ v = Value.str ⟨#[c]⟩ u) → Vals (m.map fun c => V.str (S [c])) as := by
      intro m
      induction m with
      | nil => intro as ha _; cases as with
        | nil => exact .nil
        | cons a as => cases ha
      | cons c m ih => intro as ha hh; cases as with
        | nil => cases ha
        | cons a as =>
          obtain ⟨c', u, e1, e2⟩ := hh 0 a rfl
          have : c = c' := Option.some.inj e1
          subst this
          exact .cons ⟨u, e2⟩ (ih as (Nat.succ.inj ha) fun j v e => hh (j + 1) v e)
    refine gen l acc'.toList hsz' fun j v e => ?_
    obtain ⟨c, u, e1, e2⟩ := hit j v (by simpa using e)
    exact ⟨c, u, by simpa [S] using e1, e2⟩
  refine ⟨.ref _, _, I.laid (t' := tk) (o := .lst (l.map fun c => V.str (S [c]))) hk (Nat.le_refl _) ⟨by simpa using hl, acc'.toList, c', hv, by simpa using hS⟩, rfl, q _ (I.hok.fresh (Nat.le_refl _))⟩
theorem op_mul_si : OpR X (binaryOp .Mult) (fun x y H Q => ∃ (z : Str) (k : Int), x = .str z ∧ y = .int k ∧ (k = 0 ∨ k = 1) ∧ Q (.str (if k = 0 then S [] else z)) H) := by
  intro pins s σ H x y v u Q I rx ry h
  obtain ⟨z, k, rfl, rfl, hk, q⟩ := h
  obtain ⟨t, rfl⟩ := rx
  obtain ⟨t', rfl⟩ := ry
  rcases hk with rfl | rfl
  · exact PySem.P.mul_str_none (by decide) (by decide) ⟨.str (S []), H, I.tok _, ⟨_, rfl⟩, q⟩
  · refine PySem.P.mul_str (by decide) (fun _ h => by simp at h) (fun _ h => by simp at h) ?_
    rw [if_neg (by decide), if_pos (by simp)]
    exact ⟨.str z, H, I, ⟨t, rfl⟩, q⟩
def tRevS (te ts : TE) : TE := fun σ H Q => te σ H fun x H1 => ts σ H1 fun y H2 => ∃ i, y = .int i ∧ (some i = some (-1) ∧ ∃ l : List Nat, x = .str (S l) ∧ l.length ≤ sizeLine ∧ Q (.str (S l.reverse)) H2)
theorem rev_indices (z : Str) : (Builtin.Str.strSliceIndices none none (-1) z.length).filterMap (z.cps[·]?) = z.cps.toList.reverse := by
  have e : Builtin.Str.strSliceIndices none none (-1) z.length = (List.range z.length).reverse := by
    show sliceRange ((z.length : Int) - 1) (-1) (-1) = _
    rw [PySem.W.krv_sliceRange]
    exact PySem.W.krv_range _
  rw [e, List.filterMap_reverse]
  exact congrArg List.reverse (PySem.W.krv_all z.cps)
theorem pe_revS {e st : Expr} {te ts : TE} {p3 pos : Pos} (he : PE X e te) (hs : PE X st ts) : PE X (.Subscript e (.Slice none none (some st) p3) pos) (tRevS te ts) := by
  refine ⟨fun pins s σ H Q I h => ?_⟩
  refine Subscript_ (thn (he.run pins s σ H _ I h) fun v s1 ⟨x, H1, I1, r1, q1⟩ => ?_)
  have hst : PO X (some st) (tPart ts) := po_some hs
  refine wpAny_Slice (thn (po_none.run pins s1 σ H1 (fun o H2 => o = none ∧ H2 = H1) I1 ⟨rfl, rfl⟩) fun vl s2 ⟨l, H2, I2, pl, el, e2⟩ => ?_)
  subst el e2
  refine thn (po_none.run pins s2 σ H2 (fun o H3 => o = none ∧ H3 = H2) I2 ⟨rfl, rfl⟩) fun vu s3 ⟨u, H3, I3, pu, eu, e3⟩ => ?_
  subst eu e3
  refine thn (hst.run pins s3 σ H3 (fun o H4 => o = some (-1) ∧ ∃ l : List Nat, x = .str (S l) ∧ l.length ≤ sizeLine ∧ Q (.str (S l.reverse)) H4) I3 q1) fun vs s4 ⟨o, H4, I4, ps, eo, l, ex, hl, q⟩ => ?_
  subst eo ex
  obtain ⟨t, rfl⟩ := r1
  have I5 : Inv X pins σ H4 { s4 with heap := s4.heap.push { cls := .type "slice", data := .fields #[vl, vu, vs] } } := I4.kept (t' := s4.toks) fun b ob q => Heap.get?_push_of_some _ q
  show wpAny (model X.prog X.w) X.A (subscriptTail e (.Slice none none (some st) p3) (.str (S l) t) (.ref s4.heap.objs.size)) (EP X pins σ Q) X.xe { s4 with heap := s4.heap.push { cls := .type "slice", data := .fields #[vl, vu, vs] } }
  obtain ⟨l', el, el2⟩ := IsPart.raw pl
  obtain ⟨u', eu, eu2⟩ := IsPart.raw pu
  obtain ⟨s', es, es2⟩ := IsPart.raw ps
  refine tail_any (ops := [.ref s4.heap.objs.size, .str (S l) t]) (typeIs_str _ _ _) F.slot_str_getitem.lookup ?_ (by with_unfolding_all rfl)
  refine wpAny_getItem_str_slice (l := l') (u := u') (st := s') ?_ (by rw [es2]; rfl) ?_
  · rw [el, eu, es]
    exact Heap.IsSliceOf.new ..
  · unfold sliceMade slicePicked
    rw [el2, eu2, es2]
    show Made.post (if ((-1 : Int) == 1 && (Builtin.Str.strSliceIndices none none (-1) (S l).length).length == (S l).length) = true then Made.val (.str (S l) t)
      else Made.str ⟨((Builtin.Str.strSliceIndices none none (-1) (S l).length).filterMap ((S l).cps[·]?)).toArray⟩) (EP X pins σ Q) _
    rw [if_neg (by simp), rev_indices]
    exact ⟨by simpa [Str.length] using hl, .str _, H4, I5.tok _, ⟨_, rfl⟩, q⟩
end
end LX
namespace LX
open PySem PySem.Spec PyProof.Rows L2 C8 SX
inductive Sr where
  | txt (x : Str) | lst (a : Addr) | tup (a : Addr)
def Sr.fp : Sr → List Addr
  | .txt _ => [] | .lst a => [a] | .tup a => [a]
def Sr.has (K : PySem.W.Frag) : Sr → Nat → Hp → Prop
  | .txt x, i, _ => i < x.cps.size
  | .lst a, i, H => ∃ xs, SqL K H a xs ∧ i < xs.length
  | .tup a, i, H => ∃ xs, SqT K H a xs ∧ i < xs.length
def Sr.val (K : PySem.W.Frag) : Sr → Nat → Hp → V → Prop
  | .txt x, i, _, v => ∃ c, x.cps[i]? = some c ∧ v = .str ⟨#[c]⟩
  | .lst a, i, H, v => ∀ xs, SqL K H a xs → xs[i]? = some v
  | .tup a, i, H, v => ∀ xs, SqT K H a xs → xs[i]? = some v
def Sr.upto (K : PySem.W.Frag) : Sr → Nat → Hp → Prop
  | .txt x, i, _ => i ≤ x.cps.size
  | .lst a, i, H => ∃ xs, SqL K H a xs ∧ i ≤ xs.length
  | .tup a, i, H => ∃ xs, SqT K H a xs ∧ i ≤ xs.length
def Sr.ends (K : PySem.W.Frag) : Sr → Nat → Hp → Prop
  | .txt x, i, _ => i = x.cps.size
  | .lst a, i, H => ∃ xs, SqL K H a xs ∧ i = xs.length
  | .tup a, i, H => ∃ xs, SqT K H a xs ∧ i = xs.length
def Sr.tn : Sr → Addr → Nat → Heap → Prop
  | .txt x, it, i, h => ∃ t, h.IsStrIter it (strIterType x) x t i
  | .lst a, it, i, h => h.IsListIter it a i
  | .tup a, it, i, h => h.IsTupleIter it a i
theorem Sr.tn_obj : ∀ {S : Sr} {it : Addr} {i : Nat} {h : Heap}, S.tn it i h → ∃ o, h.get? it = some o ∧ ∀ v, o.data ≠ .cell v
  | .txt _, _, _, _, ⟨_, o, e, _, d⟩ => ⟨o, e, fun v q => by rw [d] at q; cases q⟩
  | .lst _, _, _, _, h => let ⟨o, e, _, d⟩ := h; ⟨o, e, fun v q => by rw [d] at q; cases q⟩
  | .tup _, _, _, _, ⟨o, e, _, d⟩ => ⟨o, e, fun v q => by rw [d] at q; cases q⟩
theorem Sr.tn_keep : ∀ {S : Sr} {it : Addr} {i : Nat} {h h' : Heap}, S.tn it i h → (∀ o, h.get? it = some o → h'.get? it = some o) → S.tn it i h'
  | .txt _, _, _, _, _, ⟨t, o, e, r⟩, k => ⟨t, o, k o e, r⟩
  | .lst _, _, _, _, _, h, k => h.at k
  | .tup _, _, _, _, _, h, k => h.at k
section
variable {X : Cx} {pins : List (Addr × Obj)} {σ : L2.St} {H : Hp} {s : Shared}
structure DrawsAt (X : Cx) (S : Sr) (H : Hp) (s : Shared) (it : Addr) (i : Nat) (n : Nat) : Prop where
  ex : ∃ (Pp : Nat → Value → Prop) (St : Nat → Heap → Prop), (∀ A : Around, A.handled = none → Draws X.prog X.w A it (it :: S.fp) n Pp St) ∧ St i s.heap ∧
    (∀ u, Pp i u → ∃ v, S.val X.K i H v ∧ RelV v u) ∧ ∀ j h', St j h' → S.tn it j h'
theorem Sr.draws (S : Sr) {it : Addr} {i : Nat} (I : Inv X pins σ H s) (hit : ∀ a ∈ S.fp, a ≠ it) (st : S.tn it i s.heap) (hu : S.upto X.K i H) : ∃ n, DrawsAt X S H s it i n ∧ i ≤ n ∧ (S.has X.K i H → i < n) ∧ (S.ends X.K i H → i = n) := by
  cases S with
  | txt x =>
    obtain ⟨t, st⟩ := st
    refine ⟨x.cps.size, ⟨_, _, fun A hh => Draws.text hh it x t, st, fun u ⟨c, u', e, eu⟩ => ?_, fun j h' q => ⟨t, q⟩⟩, hu, fun h => h, fun h => h⟩
    exact ⟨.str ⟨#[c]⟩, ⟨c, e, rfl⟩, ⟨u', eu⟩⟩
  | lst a =>
    obtain ⟨xs, hx, hu⟩ := hu
    obtain ⟨its, rv, p, _⟩ := I.list hx
    have hl := rv.length
    refine ⟨its.toArray.size, ⟨_, _, fun A hh => Draws.list hh it a (hit a (List.mem_singleton.mpr rfl)) its.toArray, ⟨st, p.isList⟩, fun u hq => ?_, fun j h' q => q.1⟩, by simp; omega, fun ⟨ys, hy, h⟩ => ?_, fun ⟨ys, hy, h⟩ => ?_⟩
    · have hq' : its[i]? = some u := by simpa using hq
      have hlt : i < xs.length := by rw [hl]; exact (List.getElem?_eq_some_iff.mp hq').1
      obtain ⟨u', e, r⟩ := rv.get (List.getElem?_eq_getElem hlt)
      rw [hq'] at e
      rw [Option.some.inj e]
      exact ⟨xs[i], fun zs hz => by rw [I.list_inj hz hx]; exact List.getElem?_eq_getElem hlt, r⟩
    · rw [I.list_inj hy hx] at h; simp; omega
    · rw [I.list_inj hy hx] at h; simp; omega
  | tup a =>
    obtain ⟨xs, hx, hu⟩ := hu
    obtain ⟨its, rv, p, _⟩ := I.tuple hx
    have hl := rv.length
    refine ⟨its.toArray.size, ⟨_, _, fun A hh => Draws.tuple hh it a (hit a (List.mem_singleton.mpr rfl)) its.toArray, ⟨st, p⟩, fun u hq => ?_, fun j h' q => q.1⟩, by simp; omega, fun ⟨ys, hy, h⟩ => ?_, fun ⟨ys, hy, h⟩ => ?_⟩
    · have hq' : its[i]? = some u := by simpa using hq
      have hlt : i < xs.length := by rw [hl]; exact (List.getElem?_eq_some_iff.mp hq').1
      obtain ⟨u', e, r⟩ := rv.get (List.getElem?_eq_getElem hlt)
      rw [hq'] at e
      rw [Option.some.inj e]
      exact ⟨xs[i], fun zs hz => by rw [I.tuple_inj hz hx]; exact List.getElem?_eq_getElem hlt, r⟩
    · rw [I.tuple_inj hy hx] at h; simp; omega
    · rw [I.tuple_inj hy hx] at h; simp; omega
end
def ItzX (K : PySem.W.Frag) (S1 S2 : Sr) : It :=
  ⟨fun i H => S1.has K i H ∧ S2.has K i H,
    fun i H v H' => ∃ T x y, v = .ref T ∧ H T = none ∧ H' = upd H T (.tup [x, y]) ∧ S1.val K i H x ∧ S2.val K i H y,
    fun i H => S1.upto K i H ∧ S2.upto K i H ∧ (S1.ends K i H ∨ S2.ends K i H)⟩
theorem Sr.has_upto {K : PySem.W.Frag} : ∀ {S : Sr} {i : Nat} {H : Hp}, S.has K i H → S.upto K i H
  | .txt _, _, _, h => Nat.le_of_lt h
  | .lst _, _, _, ⟨xs, hx, h⟩ => ⟨xs, hx, Nat.le_of_lt h⟩
  | .tup _, _, _, ⟨xs, hx, h⟩ => ⟨xs, hx, Nat.le_of_lt h⟩
theorem turn_zipX {P : Program} {w : World} {K : PySem.W.Frag} {elts : List Expr} {kk : Nat} {tpos : Pos} {z TI TO i1 i2 : Addr} (S1 S2 : Sr) (D : ZipSep2 z TI TO i1 i2 (i1 :: S1.fp) (i2 :: S2.fp)) (n1 : ∀ a ∈ S1.fp, a ≠ i1) (n2 : ∀ a ∈ S2.fp, a ≠ i2) :
    Turn P w K (.Tuple elts kk tpos) (ItzX K S1 S2) [z, TI, TO, i1, i2] z (fun i h => IsZip h z TI TO .none ∧ IsTupOf2 h TI (.ref i1) (.ref i2) ∧ (∃ x y, IsTupOf2 h TO x y) ∧ S1.tn i1 i h ∧ S2.tn i2 i h) where
  mem := by simp
  obj := fun i h st c hc => by
    obtain ⟨hz, hTI, ⟨x, y, hTO⟩, h1, h2⟩ := st
    have e' : c = z ∨ c = TI ∨ c = TO ∨ c = i1 ∨ c = i2 := by simpa using hc
    rcases e' with q | q | q | q | q
    · rw [q]; exact ⟨_, hz, fun v q => nomatch q⟩
    · rw [q]; exact ⟨_, hTI, fun v q => nomatch q⟩
    · rw [q]; exact ⟨_, hTO, fun v q => nomatch q⟩
    · rw [q]; exact Sr.tn_obj h1
    · rw [q]; exact Sr.tn_obj h2
  keep := fun i h h' st k => by
    obtain ⟨hz, hTI, ⟨x, y, hTO⟩, h1, h2⟩ := st
    exact ⟨k z (by simp) _ hz, k TI (by simp) _ hTI, ⟨x, y, k TO (by simp) _ hTO⟩, Sr.tn_keep h1 fun o q => k i1 (by simp) o q, Sr.tn_keep h2 fun o q => k i2 (by simp) o q⟩
  item := by
    intro X hP hw hK hc i pins s σ H E I hf st hg
    subst hP hw hK
    obtain ⟨hz, hTI, ⟨x0, y0, hTO⟩, h1, h2⟩ := st
    obtain ⟨g1, g2⟩ := hg
    obtain ⟨m1, ⟨P1, St1, D1, st1, v1, t1⟩, _, lt1, _⟩ := S1.draws I n1 h1 (Sr.has_upto g1)
    obtain ⟨m2, ⟨P2, St2, D2, st2, v2, t2⟩, _, lt2, _⟩ := S2.draws I n2 h2 (Sr.has_upto g2)
    have hzl : z < s.heap.objs.size := Heap.lt_size hz
    refine wpAny_pyNext_zipD2_item D (D1 _ (I.ok.hd hc)) (D2 _ (I.ok.hd hc)) hz hTI hTO st1 st2 (lt1 g1) (lt2 g2) fun u1 u2 h' tk p1 p2 z' TO' st1' st2' hT hsz hk => ?_
    obtain ⟨x, hx, rx⟩ := v1 u1 p1
    obtain ⟨y, hy, ry⟩ := v2 u2 p2
    refine ⟨_, rfl, wpAny_letOwnedTupleGo_zip (s := { s with heap := h', toks := tk }) z' fun h'' z'' sb => ?_⟩
    have hT2 : h''.get? s.heap.objs.size = some { cls := .type "tuple", data := .seq #[u1, u2] } := (sb.2 _ (Nat.ne_of_gt hzl)).trans hT
    have new : ObjOk X.prog X.w (upd H s.heap.objs.size (.tup [x, y])) h'' s.heap.objs.size (.tup [x, y]) :=
      ⟨by show 2 ≤ sizeLine; decide, [u1, u2], .cons rx (.cons ry .nil), ⟨_, hT2, rfl, _, rfl⟩⟩
    have I1 : Inv X pins σ (upd H s.heap.objs.size (.tup [x, y])) { s with heap := h'', toks := tk } :=
      I.turnedNew (t' := tk) (ch := [z, TI, TO, i1, i2]) (fun c o hb q => (sb.2 c (fun q' => hb (by simp [q']))).trans (hk c o (fun q' => hb (by simp [q'])) (fun q' => hb (by simp [q'])) (fun q' => hb (by simp [q'])) (fun q' => hb (by simp [q'])) q)) hf (Nat.le_refl _) new
    refine ⟨.ref s.heap.objs.size, _, I1, rfl, ⟨_, x, y, rfl, I.hok.fresh (Nat.le_refl _), rfl, hx, hy⟩, ⟨z'', ?_, ⟨u1, u2, ?_⟩, ?_, ?_⟩, fun c hcm => ?_⟩
    · exact (sb.2 _ D.TIz).trans (hk _ _ D.TIz D.TITO D.TIi1 D.TIi2 hTI)
    · exact (sb.2 _ D.TOz).trans TO'
    · exact Sr.tn_keep (t1 _ _ st1') fun o q => (sb.2 _ D.zi1.symm).trans q
    · exact Sr.tn_keep (t2 _ _ st2') fun o q => (sb.2 _ D.zi2.symm).trans q
    · have hlt : c < s.heap.objs.size := by
        have e' : c = z ∨ c = TI ∨ c = TO ∨ c = i1 ∨ c = i2 := by simpa using hcm
        rcases e' with q | q | q | q | q
        · rw [q]; exact hzl
        · rw [q]; exact Heap.lt_size hTI
        · rw [q]; exact Heap.lt_size hTO
        · rw [q]; obtain ⟨_, e1, _⟩ := Sr.tn_obj h1; exact Heap.lt_size e1
        · rw [q]; obtain ⟨_, e2, _⟩ := Sr.tn_obj h2; exact Heap.lt_size e2
      rw [upd_ne (Nat.ne_of_lt hlt)]
      exact (hf c hcm).1
  done := by
    intro X hP hw hK hc i pins s σ H E I hf st hg
    subst hP hw hK
    obtain ⟨hz, hTI, ⟨x0, y0, hTO⟩, h1, h2⟩ := st
    obtain ⟨g1, g2, ge⟩ := hg
    obtain ⟨m1, ⟨P1, St1, D1, st1, v1, t1⟩, le1, _, eq1⟩ := S1.draws I n1 h1 g1
    obtain ⟨m2, ⟨P2, St2, D2, st2, v2, t2⟩, le2, _, eq2⟩ := S2.draws I n2 h2 g2
    exact wpAny_pyNext_zipD2_end D (D1 _ (I.ok.hd hc)) (D2 _ (I.ok.hd hc)) hz hTI hTO st1 st2 le1 le2 (ge.elim (fun q => .inl (eq1 q)) fun q => .inr (eq2 q)) fun h' tk hk => ⟨rfl, I.turnedL (t' := tk) (ch := [z, TI, TO, i1, i2]) (fun c o hb q =>
      hk c o (fun q' => hb (by simp [q'])) (fun q' => hb (by simp [q'])) (fun q' => hb (by simp [q'])) (fun q' => hb (by simp [q'])) q) hf⟩
  self := fun A i s Q E st h => wpAny_pyIter_zip st.1 h
def Sr.of : V → Sr → Prop
  | .str x, .txt y => x = y
  | .ref a, .lst b => a = b
  | .ref a, .tup b => a = b
  | _, _ => False
def Sr.there (K : PySem.W.Frag) (H : Hp) : Sr → Prop
  | .txt _ => True
  | .lst a => ∃ xs, SqL K H a xs
  | .tup a => ∃ xs, SqT K H a xs
theorem Sr.begins {X : Cx} {pins : List (Addr × Obj)} {σ : L2.St} {H : Hp} {s : Shared} (I : Inv X pins σ H s) {v : V} {u : Value} (r : RelV v u) : ∀ {S : Sr}, S.of v → S.there X.K H → ∃ (o : Obj) (HH : Heap → Prop), Begins u o HH ∧ HH s.heap ∧ (∀ a ∈ S.fp, a < s.heap.objs.size) ∧ ∀ (h : Heap) (it : Addr), h.get? it = some o → S.tn it 0 h
  | .txt y, e, _ => by
    cases v with
    | str x =>
      have e' : x = y := e
      subst e'
      obtain ⟨t, rfl⟩ := r
      exact ⟨_, _, begins_text x t, trivial, (fun _ h => nomatch h), fun h it q => ⟨t, _, q, rfl, rfl⟩⟩
    | _ => exact e.elim
  | .lst b, e, ⟨xs, hx⟩ => by
    cases v with
    | ref a =>
      have e' : a = b := e
      subst e'
      cases r
      obtain ⟨its, rv, p, _⟩ := I.list hx
      refine ⟨_, _, begins_list a its.toArray, p.isList, fun c h => ?_, fun h it q => ⟨_, q, rfl, rfl⟩⟩
      rw [List.mem_singleton.mp h]; exact p.lt
    | _ => exact e.elim
  | .tup b, e, ⟨xs, hx⟩ => by
    cases v with
    | ref a =>
      have e' : a = b := e
      subst e'
      cases r
      obtain ⟨its, rv, p, _⟩ := I.tuple hx
      refine ⟨_, _, begins_tuple a its.toArray, p, fun c h => ?_, fun h it q => ⟨_, q, rfl, rfl⟩⟩
      rw [List.mem_singleton.mp h]; exact p.lt
    | _ => exact e.elim
def iZipX (K : PySem.W.Frag) (ta : TA) : TI := fun σ H R => ta σ H fun vs H1 => ∃ (x y : V) (S1 S2 : Sr), vs = [x, y] ∧ S1.of x ∧ S2.of y ∧ S1.there K H1 ∧ S2.there K H1 ∧ R (ItzX K S1 S2) H1
theorem pi_zipX {X : Cx} {e e2 : Expr} {ta : TA} {p pos tpos : Pos} {elts : List Expr} {kk : Nat} (hg : Gl X "zip") (hm : X.mg "zip" = none) (ha : PA X [e, e2] ta)
    (hs : starEach [e, e2] X.env = (false, eval e X.env) :: starEach [e2] X.env := by rfl) (hpl : (backTo pos (starEach [e2] X.env)).any (·.1) = false := by rfl) :
    PI X (.Tuple elts kk tpos) (.Call (.Name "zip" p) [e, e2] [] pos) (iZipX X.K ta) := by
  refine ⟨fun pins s σ H R I h => ?_⟩
  refine Call_ (ld_blt I hg hm PyProof.Rows.boot_zip (PyProof.Rows.callWith_type1 (thn (ha.run pos pins s σ H _ I h) fun us s1 ⟨vs, H1, I1, r1, q1⟩ => ?_) hs hpl))
  obtain ⟨x, y, S1, S2, ex, e1, e2, th1, th2, q⟩ := q1
  subst ex
  obtain ⟨u, u', rfl, r, r'⟩ := vals2 r1
  obtain ⟨o1, HH1, B1, b1, f1, t1⟩ := Sr.begins I1 r e1 th1
  obtain ⟨o2, HH2, B2, b2, f2, t2⟩ := Sr.begins I1 r' e2 th2
  have fresh5 : ∀ c, c ∈ [s1.heap.objs.size + 4, s1.heap.objs.size + 2, s1.heap.objs.size + 3, s1.heap.objs.size, s1.heap.objs.size + 1] → FpOk X pins H1 c := fun c hcm => by
    have e' : c = s1.heap.objs.size + 4 ∨ c = s1.heap.objs.size + 2 ∨ c = s1.heap.objs.size + 3 ∨ c = s1.heap.objs.size ∨ c = s1.heap.objs.size + 1 := by simpa using hcm
    have hle : s1.heap.objs.size ≤ c := by
      rcases e' with z | z | z | z | z
      · rw [z]; exact Nat.le_add_right _ _
      · rw [z]; exact Nat.le_add_right _ _
      · rw [z]; exact Nat.le_add_right _ _
      · rw [z]; exact Nat.le_refl _
      · rw [z]; exact Nat.le_add_right _ _
    exact I1.fpOk hle (I1.hok.fresh hle)
  refine zip_begins2 B1 B2 b1 b2 fun h' hz hTI hTO h1 h2 hsz hk => wpAny_pyIter_zip hz ?_
  have I2 : Inv X pins σ H1 { s1 with heap := h' } := I1.kept (t' := s1.toks) hk
  exact ⟨s1.heap.objs.size + 4, [s1.heap.objs.size + 4, s1.heap.objs.size + 2, s1.heap.objs.size + 3, s1.heap.objs.size, s1.heap.objs.size + 1], _, _, H1, rfl, I2,
    turn_zipX S1 S2 (PySem.zip_sep2 f1 f2) (fun a ha => Nat.ne_of_lt (f1 a ha)) (fun a ha => Nat.ne_of_lt (Nat.lt_succ_of_lt (f2 a ha))), ⟨hz, hTI, ⟨_, _, hTO⟩, t1 _ _ h1, t2 _ _ h2⟩, fresh5, q⟩
end LX
namespace LX
open PySem PySem.Spec PyProof.Rows L2 C8 SX
section
variable {prog : Program} {w : World} {A : Around} {E : Value → Shared → Prop} {s : Shared} {K : PySem.W.Frag} {x y C L f : Addr} {h₀ : Heap} {m : Str → Option Value} {ox : Obj} {od : Option Obj}
theorem objNe_own (X : K.In s.heap) (I : PySem.W.InstAt s.heap x ox C od) (hs : PySem.W.findIn K (.ref C) "__eq__" = some (some (.ref f))) (hf : PySem.W.isFn K (.ref f) = true) (hu : A.units < cLine) {Q : Fin → Shared → Prop}
    (hcall : wpAny (model prog w) A (call (.ref f) [.ref x, .ref y]) (fun v s' => ∃ b, v = .bool b ∧ Q (.done (.ret (.bool (!b)))) s') E s) :
    wpAny (model prog w) A (Builtin.«object.__ne__» ⟨[.ref x, .ref y], []⟩) Q E s := by
  unfold Builtin.«object.__ne__»
  repeat (first
    | with_reducible refine wpAny_cRoomFor hu ?_
    | (refine wpAny_bind (m := callSpecialIfBound? (.ref x) (Str.ofString "__eq__") [.ref y])
        (PySem.W.ifBound_K X I hs hf (wpAny_mono hcall (fun r s' hr => by
          obtain ⟨b, rfl, hq⟩ := hr
          repeat (first | exact hq | exact wpAny_pure hq | exact wpAny_truthy_bool hq | (refine wpAny_bind (m := truthy (.bool _)) (wpAny_truthy_bool ?_)) | wp_step)) fun _ _ e => e)))
    | wp_step)
theorem ifBound_ne {M : Model} {args : List Value} {Q : Option Value → Shared → Prop} (X : K.In s.heap) (I : PySem.W.InstAt s.heap x ox C od) (hs : PySem.W.findIn K (.ref C) "__ne__" = some (some (.builtin "object.__ne__")))
    (h : wpAny M A (call (.builtin "object.__ne__") (.ref x :: args)) (fun v => Q (some v)) E s) : wpAny M A (callSpecialIfBound? (.ref x) "__ne__" args) Q E s := by
  simp only [callSpecialIfBound?, bindSpecialIfBound?]
  refine wpAny_holding (wpAny_bind (wpAny_bind (wpAny_bind (I.type.here ((PySem.W.looks_findIn X hs).here ?_)))))
  simp only [F.cmp_object.ne.bind]
  refine wpAny_bind (wpAny_askSetting (wpAny_ite ?_))
  have fin : wpAny M A (call (.builtin "object.__ne__") ([.ref x] ++ args) >>= fun v => pure (some v)) Q E s := wpAny_bind (wpAny_mono h (fun v s' h' => wpAny_pure h') fun _ _ h' => h')
  split
  · exact wpAny_bind (wpAny_pure (wpAny_pure fin))
  · exact wpAny_tryCatch (wpAny_bind (wpAny_pure (wpAny_pure fin)))
theorem check_ne {M : Model} {Q : Unit → Shared → Prop} (X : K.In s.heap) (I : PySem.W.InstAt s.heap x ox C od) (hm : PySem.W.mroIn K C (.type "object") = some true) (hq : Q () s) :
    wpAny M A (checkBuiltinCall "object.__ne__" ⟨[.ref x, .ref y], []⟩) Q E s := by
  have L0 := I.type (M := M)
  have L1 := PySem.W.looks_mroIn (M := M) X hm
  simp only [checkBuiltinCall, F.cmpKind_ne, F.cmpSplit_ne]
  have ha := F.cmpArgs_ne (.ref x) (.ref y)
  refine wpAny_bind ?_
  unfold isInstance
  repeat lk
  exact hq
theorem rcNe_own (hu : A.units + 1 < cLine) (FF : Fr h₀ L s.heap m) (X₀ : K.In h₀) (I : PySem.W.InstAt s.heap x ox C od) (hb : PySem.W.Looks (model prog w) s.heap (typeOf (.ref y)) (.ref C))
    (hs : PySem.W.findIn K (.ref C) "__eq__" = some (some (.ref f))) (hf : PySem.W.isFn K (.ref f) = true) (hn : PySem.W.findIn K (.ref C) "__ne__" = some (some (.builtin "object.__ne__"))) (hm : PySem.W.mroIn K C (.type "object") = some true)
    {Q : Value → Shared → Prop} (hcall : wpAny (model prog w) A.in1 (call (.ref f) [.ref x, .ref y]) (fun v s' => ∃ b, v = .bool b ∧ Q (.bool (!b)) s') E s) :
    wpAny (model prog w) A (richCompare .NotEq (.ref x) (.ref y)) Q E s := by
  have X := X₀.keeps FF.keep
  have one : wpAny (model prog w) A (tryCompare (.ref x) (cmpInfo .NotEq).2.1 (.ref y)) (fun r s' => ∃ v, r = some v ∧ Q v s') E s := by
    show wpAny (model prog w) A (tryCompare (.ref x) "__ne__" (.ref y)) (fun r s' => ∃ v, r = some v ∧ Q v s') E s
    unfold tryCompare
    refine wpAny_bind (ifBound_ne X I hn (wpAny_call (codeAny_call_builtin F.cmp_object.ne.plain F.cmpEntry_ne (check_ne X I hm (objNe_own (A := A.in1) X I hs hf (by show A.units + 1 < cLine; exact hu) (wpAny_mono hcall (fun v s' hv => ?_) fun _ _ e => e))))))
    obtain ⟨b, rfl, hq⟩ := hv
    first | exact ⟨b, rfl, wpAny_pure ⟨_, rfl, hq⟩⟩ | exact ⟨b, rfl, wpAny_pure (wpAny_pure ⟨_, rfl, hq⟩)⟩ | exact ⟨b, rfl, ⟨_, rfl, hq⟩⟩
  unfold richCompare
  simp only [oneThing_ref]
  refine wpAny_holding (wpAny_bind (wpAny_cRoomFor (by omega) ?_))
  refine wpAny_bind (I.type.here (wpAny_bind (hb.here ?_)))
  rw [show (Value.ref C != Value.ref C) = false from by simp]
  simp only [Bool.false_eq_true, if_false]
  refine wpAny_bind (wpAny_pure ?_)
  simp only [Bool.false_eq_true, if_false]
  refine wpAny_bind (wpAny_mono one (fun r s' z => ?_) fun _ _ e => e)
  obtain ⟨v, rfl, hq⟩ := z
  first | exact wpAny_pure hq | exact hq
end
section
variable {X : Cx} {k j : Nat} {C : Addr} {sp : Sp}
theorem met_run {mth : Str} {pins : List (Addr × Obj)} {σ : L2.St} {H : Hp} {s : Shared} {A : Around} {a b : Addr} {Q : Value → Shared → Prop} (c : Met X.prog X.w X.K X.mg X.base k C mth sp []) (hr : Room k A) (hfr : A.frames = X.A.frames) (I : Inv X pins σ H s)
    {R : VK} (hsp : sp [.ref a, .ref b] H R C8.E0) (hQ : ∀ v z H' s', Inv X pins σ H' s' → RelV z v → R z H' → Q v s') :
    ∃ f, PySem.W.findIn X.K (.ref C) mth = some (some (.ref f)) ∧ PySem.W.isFn X.K (.ref f) = true ∧ wpAny (model X.prog X.w) A (call (.ref f) [.ref a, .ref b]) Q X.xe s := by
  obtain ⟨f, fd, ps, ds, hc, hm, F, hb, hd⟩ := c.ex
  refine ⟨f, hm.at_, hm.fn, ?_⟩
  have e0 : Env0 X.prog X.w X.K X.mg X.base A X.stack s H := by
    have e := I.env0
    exact ⟨by rw [hfr]; exact e.frames, e.mod, e.bs, e.bsz, e.funs, e.frf, e.hok, e.bare⟩
  have hds : ds = [] := by cases hd; rfl
  subst hds
  have hl := F.len _ _ _ _ hsp
  have r2 : Vals [V.ref a, V.ref b] [Value.ref a, Value.ref b] := .cons rfl (.cons rfl .nil)
  refine wpAny_call (codeAny_mono (F.run A X.stack s H ⟨[.ref a, .ref b], []⟩ [.ref a, .ref b] [.ref a, .ref b] _ C8.E0 hr e0 (by
    have := hb s [.ref a, .ref b] I.kIn (by simpa using hl)
    simpa using this) r2 hsp) fun r s' hq => ?_)
  cases r with
  | error e => exact C8.pass0 (E := C8.E0) pins σ H s e s' I hq
  | ok fl =>
    cases fl with
    | ret w =>
      obtain ⟨z, H', I', rz, q⟩ := I.after hq
      exact hQ w z H' s' I' rz q
    | next => exact False.elim hq
    | brk => exact False.elim hq
    | cont => exact False.elim hq
structure NeC (K : PySem.W.Frag) (C : Addr) : Prop where
  ne : PySem.W.findIn K (.ref C) "__ne__" = some (some (.builtin "object.__ne__"))
  ob : PySem.W.mroIn K C (.type "object") = some true
  sf : PySem.W.selfFirst K C = true
def rEqI (C : Addr) (sp : Sp) : R2 := fun x y H Q => ∃ a b dx dy fs gs, x = .ref a ∧ y = .ref b ∧ H a = some (.ins C dx fs) ∧ H b = some (.ins C dy gs) ∧ sp [.ref a, .ref b] H (fun v H' => ∃ r, v = .bl r ∧ Q (.bl r) H') C8.E0
def rNeI (C : Addr) (sp : Sp) : R2 := fun x y H Q => ∃ a b dx dy fs gs, x = .ref a ∧ y = .ref b ∧ H a = some (.ins C dx fs) ∧ H b = some (.ins C dy gs) ∧ sp [.ref a, .ref b] H (fun v H' => ∃ r, v = .bl r ∧ Q (.bl (!r)) H') C8.E0
def rOpI (C : Addr) (sp : Sp) : R2 := fun x y H Q => ∃ a b dx dy fs gs, x = .ref a ∧ y = .ref b ∧ H a = some (.ins C dx fs) ∧ H b = some (.ins C dy gs) ∧ sp [.ref a, .ref b] H (fun v H' => ∃ p, v = .ref p ∧ Q (.ref p) H') C8.E0
theorem op_eqI (c : Met X.prog X.w X.K X.mg X.base k C "__eq__" sp []) (hr : Room j X.A) (hk : k ≤ j) : OpR X (compareOp .Eq) (rEqI C sp) := by
  intro pins s σ H x y v u Q I rx ry h
  obtain ⟨a, b, dx, dy, fs, gs, rfl, rfl, ha, hb, hsp⟩ := h
  cases rx
  cases ry
  obtain ⟨mA, J, _⟩ := ins_get I.hok ha
  obtain ⟨mB, J', _⟩ := ins_get I.hok hb
  obtain ⟨od, J, _⟩ := J.look
  obtain ⟨od', J', _⟩ := J'.look
  obtain ⟨m, hF⟩ := I.fr
  obtain ⟨f, hs, hf, hw⟩ := met_run (Q := PySem.W.CmpBack (EP X pins σ Q)) c (hr.mono hk) rfl I hsp (fun v z H' s' I' rz q => by
    obtain ⟨r, rfl, q⟩ := q
    cases rz
    exact ⟨.bl r, H', I', rfl, q⟩)
  exact PySem.W.cmp_K (op := .Eq) (tb := .ref C) hr.units0 hF I.ok.mod.kin J J'.type (by simp [PySem.W.notFirst]) hs hf hw
theorem op_neI (n : NeC X.K C) (c : Met X.prog X.w X.K X.mg X.base k C "__eq__" sp []) (hr : Room j X.A) (hk : k + 1 ≤ j) : OpR X (compareOp .NotEq) (rNeI C sp) := by
  intro pins s σ H x y v u Q I rx ry h
  obtain ⟨a, b, dx, dy, fs, gs, rfl, rfl, ha, hb, hsp⟩ := h
  cases rx
  cases ry
  obtain ⟨mA, J, _⟩ := ins_get I.hok ha
  obtain ⟨mB, J', _⟩ := ins_get I.hok hb
  obtain ⟨od, J, _⟩ := J.look
  obtain ⟨od', J', _⟩ := J'.look
  obtain ⟨m, hF⟩ := I.fr
  obtain ⟨f, hs, hf, hw⟩ := met_run (Q := fun v s' => ∃ b, v = .bool b ∧ EP X pins σ Q (.bool (!b)) s') c (hr.mono hk).in1 rfl I hsp (fun v z H' s' I' rz q => by
    obtain ⟨r, rfl, q⟩ := q
    cases rz
    exact ⟨r, rfl, .bl (!r), H', I', rfl, q⟩)
  exact rcNe_own (hu_of hr) hF I.ok.mod.kin J J'.type hs hf n.ne n.ob hw
theorem op_mulI (n : NeC X.K C) (c : Met X.prog X.w X.K X.mg X.base k C "__mul__" sp []) (hr : Room j X.A) (hk : k ≤ j) : OpR X (binaryOp .Mult) (rOpI C sp) := by
  intro pins s σ H x y v u Q I rx ry h
  obtain ⟨a, b, dx, dy, fs, gs, rfl, rfl, ha, hb, hsp⟩ := h
  cases rx
  cases ry
  obtain ⟨mA, J, _⟩ := ins_get I.hok ha
  obtain ⟨mB, J', _⟩ := ins_get I.hok hb
  obtain ⟨od, J, _⟩ := J.look
  obtain ⟨od', J', _⟩ := J'.look
  obtain ⟨m, hF⟩ := I.fr
  obtain ⟨f, hs, hf, hw⟩ := met_run (Q := PySem.W.CmpBack (EP X pins σ Q)) c (hr.mono hk) rfl I hsp (fun v z H' s' I' rz q => by
    obtain ⟨p, rfl, q⟩ := q
    cases rz
    exact ⟨.ref p, H', I', rfl, q⟩)
  exact PySem.W.binop_K (op := .Mult) hF I.ok.mod.kin J J'.type n.sf hs hf hw
theorem op_addI (n : NeC X.K C) (c : Met X.prog X.w X.K X.mg X.base k C "__add__" sp []) (hr : Room j X.A) (hk : k ≤ j) : OpR X (binaryOp .Add) (rOpI C sp) := by
  intro pins s σ H x y v u Q I rx ry h
  obtain ⟨a, b, dx, dy, fs, gs, rfl, rfl, ha, hb, hsp⟩ := h
  cases rx
  cases ry
  obtain ⟨mA, J, _⟩ := ins_get I.hok ha
  obtain ⟨mB, J', _⟩ := ins_get I.hok hb
  obtain ⟨od, J, _⟩ := J.look
  obtain ⟨od', J', _⟩ := J'.look
  obtain ⟨m, hF⟩ := I.fr
  obtain ⟨f, hs, hf, hw⟩ := met_run (Q := PySem.W.CmpBack (EP X pins σ Q)) c (hr.mono hk) rfl I hsp (fun v z H' s' I' rz q => by
    obtain ⟨p, rfl, q⟩ := q
    cases rz
    exact ⟨.ref p, H', I', rfl, q⟩)
  exact PySem.W.binop_K (op := .Add) hF I.ok.mod.kin J J'.type n.sf hs hf hw
end
end LX
namespace LX
open PySem PySem.Spec PyProof.Rows L2 C8 SX
section
variable {X : Cx} {K : PySem.W.Frag} {H : Hp}
def txs (xs : List (List Nat)) : List V := xs.map fun l => V.str (S l)
theorem txs_len (xs : List (List Nat)) : (txs xs).length = xs.length := List.length_map ..
theorem dp_strs : ∀ xs : List (List Nat), DpAll K H (txs xs) (xs.map fun l => PyData.str (S l))
  | [] => .nil
  | x :: xs => .cons (.str _) (dp_strs xs)
theorem eqv_strs : ∀ xs ys : List (List Nat), PyData.eqvAll (xs.map fun l => PyData.str (S l)) (ys.map fun l => PyData.str (S l)) = decide (xs = ys)
  | [], [] => rfl
  | [], _ :: _ => rfl
  | _ :: _, [] => rfl
  | x :: xs, y :: ys => by
    show (S x == S y && PyData.eqvAll (xs.map fun l => PyData.str (S l)) (ys.map fun l => PyData.str (S l))) = _
    rw [S_beq_eq, eqv_strs xs ys, ← Bool.decide_and]
    exact decide_eq_decide.mpr (by rw [List.cons.injEq])
def Small (xs : List (List Nat)) : Prop := ∀ l ∈ xs, ∀ c ∈ l, c < 1114112
theorem lay_strs : ∀ {xs : List (List Nat)}, Small xs → PyData.canLayAll0 (xs.map fun l => PyData.str (S l)) = true ∧ PyData.depthAll (xs.map fun l => PyData.str (S l)) ≤ 1
  | [], _ => ⟨rfl, Nat.zero_le _⟩
  | x :: xs, h => by
    obtain ⟨h1, h2⟩ := lay_strs (xs := xs) fun l hl => h l (List.mem_cons_of_mem _ hl)
    refine ⟨?_, ?_⟩
    · show (PyData.canLay0 (.str (S x)) && PyData.canLayAll0 (xs.map fun l => PyData.str (S l))) = true
      rw [h1, Bool.and_true]
      show (S x).cps.all (· < 0x110000) = true
      rw [← Array.all_toList, List.all_eq_true]
      exact fun c hc => decide_eq_true (h x List.mem_cons_self c hc)
    · show max (PyData.depth (.str (S x))) (PyData.depthAll (xs.map fun l => PyData.str (S l))) ≤ 1
      have e : PyData.depth (.str (S x)) ≤ 1 := Nat.zero_le _
      omega
theorem shaped_lst {xs : List (List Nat)} (h : Small xs) : SeqAt.shaped (.list (xs.map fun l => PyData.str (S l))) = true := by
  obtain ⟨h1, h2⟩ := lay_strs h
  show (PyData.canLayAll0 _ && decide (PyData.depthAll _ + 1 ≤ 64)) = true
  rw [h1, Bool.true_and, decide_eq_true_eq]; omega
theorem shaped_tup {xs : List (List Nat)} (h : Small xs) : SeqAt.shaped (.tuple (xs.map fun l => PyData.str (S l))) = true := by
  obtain ⟨h1, h2⟩ := lay_strs h
  show (PyData.canLayAll0 _ && decide (PyData.depthAll _ + 1 ≤ 64)) = true
  rw [h1, Bool.true_and, decide_eq_true_eq]; omega
def rSs (K : PySem.W.Frag) (f : Bool → Bool) : R2 := fun x y H Q => ∃ (a b : Addr) (xs ys : List (List Nat)), x = .ref a ∧ y = .ref b ∧ ((SqL K H a (txs xs) ∧ SqL K H b (txs ys)) ∨ (SqT K H a (txs xs) ∧ SqT K H b (txs ys))) ∧ Small xs ∧ Small ys ∧ Q (.bl (f (decide (xs = ys)))) H
theorem op_eqSs {k : Nat} (hr : Room k X.A) : OpR X (compareOp .Eq) (rSs X.K fun b => b) := by
  intro pins s σ H x y v u Q I rx ry h
  obtain ⟨a, b, xs, ys, rfl, rfl, hh, hx, hy, q⟩ := h
  rcases hh with ⟨h1, h2⟩ | ⟨h1, h2⟩
  · exact op_eqD hr.units pins s σ H _ _ v u Q I rx ry ⟨_, _, .lst h1 (dp_strs xs), .lst h2 (dp_strs ys), shaped_lst hx, shaped_lst hy, by rw [show PyData.eqv (.list (xs.map fun l => PyData.str (S l))) (.list (ys.map fun l => PyData.str (S l))) = _ from eqv_strs xs ys]; exact q⟩
  · exact op_eqD hr.units pins s σ H _ _ v u Q I rx ry ⟨_, _, .tup h1 (dp_strs xs), .tup h2 (dp_strs ys), shaped_tup hx, shaped_tup hy, by rw [show PyData.eqv (.tuple (xs.map fun l => PyData.str (S l))) (.tuple (ys.map fun l => PyData.str (S l))) = _ from eqv_strs xs ys]; exact q⟩
theorem op_neSs {k : Nat} (hr : Room k X.A) : OpR X (compareOp .NotEq) (rSs X.K fun b => !b) := by
  intro pins s σ H x y v u Q I rx ry h
  obtain ⟨a, b, xs, ys, rfl, rfl, hh, hx, hy, q⟩ := h
  rcases hh with ⟨h1, h2⟩ | ⟨h1, h2⟩
  · exact op_neD hr.units pins s σ H _ _ v u Q I rx ry ⟨_, _, .lst h1 (dp_strs xs), .lst h2 (dp_strs ys), shaped_lst hx, shaped_lst hy, by rw [show PyData.eqv (.list (xs.map fun l => PyData.str (S l))) (.list (ys.map fun l => PyData.str (S l))) = _ from eqv_strs xs ys]; exact q⟩
  · exact op_neD hr.units pins s σ H _ _ v u Q I rx ry ⟨_, _, .tup h1 (dp_strs xs), .tup h2 (dp_strs ys), shaped_tup hx, shaped_tup hy, by rw [show PyData.eqv (.tuple (xs.map fun l => PyData.str (S l))) (.tuple (ys.map fun l => PyData.str (S l))) = _ from eqv_strs xs ys]; exact q⟩
end
theorem occ_idx {l : List Nat} {c : Nat} (h : c ∈ l) : ∃ r, Builtin.Str.occurrences (S l) (S [c]) 0 (S l).length 1 = l.idxOf c :: r := by
  have hlt := List.idxOf_lt_length_of_mem h
  have hat : StrLaws.At (S l) (S [c]) (S l).length (l.idxOf c) := (StrLaws.subAt_one (S l) c _).mpr (by show l[l.idxOf c]? = some c; rw [List.getElem?_eq_getElem hlt, List.getElem_idxOf hlt])
  rcases StrLaws.occ_head (S l) (S [c]) 1 (Nat.le_refl _) with ⟨_, hn⟩ | ⟨i, r, e, ha, hn⟩
  · exact absurd hat (hn _)
  · refine ⟨r, ?_⟩
    have hi : l[i]? = some c := (StrLaws.subAt_one (S l) c i).mp ha
    have h1 : ¬ l.idxOf c < i := fun z => hn _ z hat
    have h2 : ¬ i < l.idxOf c := fun z => by
      obtain ⟨hl, e⟩ := List.getElem?_eq_some_iff.mp hi
      have q := List.not_of_lt_findIdx (p := (· == c)) (xs := l) z
      simp [e] at q
    have : i = l.idxOf c := by omega
    rw [e, this]
structure Keep (Rel : Hp → Hp → Prop) (H1 : Hp) : Prop where
  refl : Rel H1 H1
  trans : ∀ H H', Rel H1 H → Rel H H' → Rel H1 H'
  put : ∀ H D o, Rel H1 H → H1 D = none → Rel H1 (upd H D o)
  get : ∀ H H' D o, Rel H H' → H1 D = none → Rel H1 H → H D = some o → H' D = some o
theorem keep_same {H1 : Hp} : Keep Same H1 where
  refl := Same.refl _
  trans := fun _ _ a b => a.trans b
  put := fun H D o s hD b u e => by rw [upd_ne (ne_of_none e hD)]; exact s b u e
  get := fun H H' D o s _ _ e => s _ _ e
def Bk (Pb : HO → Prop) (b : Addr) (H H' : Hp) : Prop := (∀ a o, a ≠ b → H a = some o → H' a = some o) ∧ ∃ o, H' b = some o ∧ Pb o
theorem keep_bk {Pb : HO → Prop} {b : Addr} {H1 : Hp} (h : ∃ o, H1 b = some o ∧ Pb o) : Keep (Bk Pb b) H1 where
  refl := ⟨fun _ _ _ e => e, h⟩
  trans := fun _ _ p q => ⟨fun a o n e => q.1 a o n (p.1 a o n e), q.2⟩
  put := fun H D o s hD => by
    obtain ⟨o1, e1, _⟩ := h
    refine ⟨fun a u n e => by rw [upd_ne (ne_of_none e hD)]; exact s.1 a u n e, ?_⟩
    rw [upd_ne (ne_of_none e1 hD)]
    exact s.2
  get := fun H H' D o s hD _ e => by
    obtain ⟨o1, e1, _⟩ := h
    exact s.1 D o (ne_of_none e1 hD).symm e
theorem bk_same {Pb : HO → Prop} {b : Addr} {H H' : Hp} (s : Same H H') (h : ∃ o, H b = some o ∧ Pb o) : Bk Pb b H H' := ⟨fun a o _ e => s a o e, let ⟨o, e, p⟩ := h; ⟨o, s b o e, p⟩⟩
theorem sm_put {H H' : Hp} {p : Addr} {o : HO} (s : Same H H') (h : H p = none) : Same H (upd H' p o) := fun b u e => by rw [upd_ne (ne_of_none e h)]; exact s b u e
theorem sm_put' {H H' : Hp} {p : Addr} {o : HO} (s : Same H H') (h : H' p = none) : Same H (upd H' p o) := sm_put s (s.free h)
theorem sm_new {H : Hp} {p : Addr} {o : HO} (h : H p = none) : Same H (upd H p o) := sm_put (Same.refl H) h
theorem sm_seqT {K : PySem.W.Frag} {H H' : Hp} {a : Addr} {xs : List V} (e : Same H H') (h : SqT K H a xs) : SqT K H' a xs :=
  h.elim (fun h => .inl (h.elim (fun h => .inl (e _ _ h)) fun ⟨o, h⟩ => .inr ⟨o, e _ _ h⟩)) fun h => .inr h
theorem bk_seq {Pb : HO → Prop} {K : PySem.W.Frag} {b : Addr} {H H' : Hp} {a : Addr} {xs : List V} (e : Bk Pb b H H') (n : a ≠ b) (h : SqL K H a xs) : SqL K H' a xs := by
  rcases h with (h | ⟨o, h⟩) | h
  · exact .inl (.inl (e.1 _ _ n h))
  · exact .inl (.inr ⟨o, e.1 _ _ n h⟩)
  · exact .inr h
theorem lc_keep {Rel : Hp → Hp → Prop} {J : It} {n : Nat} {G : Hp → Prop} {Y : Nat → Hp → V → Hp → Prop} {H1 : Hp} (kp : Keep Rel H1) (w : Walk J n G Y) {g : TG} {te : TE} {vs : List Nat} {σ : L2.St} {D : Addr} {Qd : Hp → Prop} (hD : H1 D = none) (hn : n < sizeLine)
    (Good : Nat → V → Prop) (hG : ∀ H, Rel H1 H → G H)
    (hs : ∀ i x H H' (R : V → Hp → Prop), i < n → Rel H1 H → Y i H x H' → (∀ y H4, Rel H H4 → Good i y → R y H4) → g x (wipe σ vs) H' fun σ2 H2 => wipe σ2 vs = wipe σ vs ∧ te σ2 H2 R)
    (hd : ∀ ys H, ys.length = n → (∀ (j : Nat) y, ys[j]? = some y → Good j y) → Rel H1 H → H D = some (.lst ys) → Qd H) :
    ∃ W : Nat → Nat → Hp → Prop, (∃ m, W 0 m (upd H1 D (.lst []))) ∧ ∀ i m H, W i m H →
      (J.stop i H ∧ Qd H) ∨ (J.go i H ∧ ∃ Nx : Hp → Prop, (∀ H', Nx H' → ∃ m', m' < m ∧ W (i + 1) m' H') ∧ ∀ x H', J.yld i H x H' → g x (wipe σ vs) H' fun σ2 H2 => wipe σ2 vs = wipe σ vs ∧ tYes σ2 H2 fun b H3 =>
        if b = true then te σ2 H3 fun y H4 => ∃ acc, H4 D = some (.lst acc) ∧ acc.length < sizeLine ∧ Nx (upd H4 D (.lst (acc ++ [y]))) else Nx H3) := by
  refine lc_it w (fun i H => ∃ acc, acc.length = i ∧ H D = some (.lst acc) ∧ Rel H1 H ∧ ∀ (j : Nat) y, acc[j]? = some y → Good j y) ⟨[], rfl, upd_same, kp.put _ _ _ kp.refl hD, fun j y e => by simp at e⟩ (fun i H _ ⟨_, _, _, r, _⟩ => hG H r) (fun i x H H' hi ⟨acc, hl, hDa, r, hg⟩ hy => ?_) (fun H ⟨acc, hl, hDa, r, hg⟩ => hd acc H hl hg r hDa)
  refine hs i x H H' _ hi r hy fun y H4 r4 gy => ?_
  refine ⟨acc, kp.get _ _ _ _ r4 hD r hDa, by omega, acc ++ [y], by simp [hl], upd_same, kp.put _ _ _ (kp.trans _ _ r r4) hD, fun j z e => ?_⟩
  rcases Nat.lt_or_ge j acc.length with h | h
  · rw [List.getElem?_append_left h] at e
    exact hg j z e
  · rw [List.getElem?_append_right h] at e
    have hj : j - acc.length = 0 := by
      rcases Nat.lt_or_ge (j - acc.length) 1 with z | z
      · omega
      · rw [List.getElem?_eq_none (by simpa using z)] at e; cases e
    rw [hj] at e
    have : y = z := Option.some.inj e
    subst this
    have : j = i := by omega
    subst this
    exact gy
theorem list_of {α : Type} {ys : List α} {n : Nat} {f : Nat → α} (hl : ys.length = n) (h : ∀ (j : Nat) y, ys[j]? = some y → y = f j) : ys = (List.range n).map f := by
  apply List.ext_getElem
  · simp [hl]
  · intro i h1 h2
    rw [List.getElem_map, List.getElem_range]
    exact h i _ (List.getElem?_eq_getElem h1)
theorem list_map {α β : Type} {ys : List β} {xs : List α} {f : α → β} (hl : ys.length = xs.length) (h : ∀ (j : Nat) y x, ys[j]? = some y → xs[j]? = some x → y = f x) : ys = xs.map f := by
  apply List.ext_getElem
  · simp [hl]
  · intro i h1 h2
    rw [List.getElem_map]
    exact h i _ _ (List.getElem?_eq_getElem h1) (List.getElem?_eq_getElem (by omega))
end LX
namespace LX
open PySem PySem.Spec PyProof.Rows L2 C8 SX
section
variable {X : Cx}
theorem ixl (K : PySem.W.Frag) (h : X.K = K := by rfl) : IxR X (rIxL K) := by subst h; exact ix_list
theorem ixt (K : PySem.W.Frag) (h : X.K = K := by rfl) : IxR X (rIxT K) := by subst h; exact ix_tup
theorem lenK (K : PySem.W.Frag) (h : X.K = K := by rfl) : CallR X (.builtin "len") (fun xs H Q => ∃ p ys, xs = [.ref p] ∧ (SqL K H p ys ∨ SqT K H p ys) ∧ Q (.int ys.length) H) := by subst h; exact call_len_seq
theorem listK (K : PySem.W.Frag) (h : X.K = K := by rfl) : CallR X (.type "list") (fun xs H Q => ∃ p ys, xs = [.ref p] ∧ (SqL K H p ys ∨ SqT K H p ys) ∧ ∀ l, H l = none → Q (.ref l) (upd H l (.lst ys))) := by subst h; exact call_list_of
theorem tupleK (K : PySem.W.Frag) (h : X.K = K := by rfl) : CallR X (.type "tuple") (fun xs H Q => ∃ p ys, xs = [.ref p] ∧ ((SqL K H p ys ∧ ∀ l, H l = none → Q (.ref l) (upd H l (.tup ys))) ∨ (SqT K H p ys ∧ Q (.ref p) H))) := by subst h; exact call_tuple_of
theorem isiK (K : PySem.W.Frag) (h : X.K = K := by rfl) : CallR X (.builtin "isinstance") (rIsi K) := by subst h; exact call_isi
theorem isiTK (K : PySem.W.Frag) (h : X.K = K := by rfl) : CallR X (.builtin "isinstance") (rIsiT K) := by subst h; exact call_isiT
theorem fldK (K : PySem.W.Frag) {o : Expr} {f : Str} {pos : Pos} {ta : TE} (ha : PE X o ta) (hb : attributeBase o f X.env (eval o X.env) = eval o X.env) (h : X.K = K := by rfl) : PE X (.Attribute o f pos) (tFld K ta f) := by subst h; exact pe_fld ha hb
theorem tupK (K : PySem.W.Frag) {es : List Expr} {k : Nat} {pos : Pos} {t : TGs} (n : Nat) (h : PGs X es t) (hc : X.calm = true := by rfl)
    (hn : (assignEach es X.env).length = n := by rfl) (hst : (assignEach es X.env).findIdx? (·.1) = none := by rfl) (hK : X.K = K := by rfl) : PG X (.Tuple es k pos) (gTup K n t) := by subst hK; exact pg_tup hc h hn hst
theorem unlK (K : PySem.W.Frag) {es : List Expr} {k : Nat} {pos : Pos} {t : TGs} (n : Nat) (h : PGs X es t) (hc : X.calm = true := by rfl)
    (hn : (assignEach es X.env).length = n := by rfl) (hst : (assignEach es X.env).findIdx? (·.1) = none := by rfl) (hK : X.K = K := by rfl) : PG X (.Tuple es k pos) (gUnl K n t) := by subst hK; exact pg_unl hc h hn hst
end
def Sr.is (K : PySem.W.Frag) (H : Hp) (xs : List V) : Sr → Prop
  | .txt x => xs = x.cps.toList.map fun c => V.str ⟨#[c]⟩
  | .lst a => SqL K H a xs
  | .tup a => SqT K H a xs
theorem Sr.is_there {K : PySem.W.Frag} {H : Hp} {xs : List V} : ∀ {S : Sr}, S.is K H xs → S.there K H
  | .txt _, _ => trivial
  | .lst _, h => ⟨xs, h⟩
  | .tup _, h => ⟨xs, h⟩
theorem Sr.is_has {K : PySem.W.Frag} {H : Hp} {xs : List V} {i : Nat} (hi : i < xs.length) : ∀ {S : Sr}, S.is K H xs → S.has K i H
  | .txt x, h => by
    have h' : xs = x.cps.toList.map fun c => V.str ⟨#[c]⟩ := h
    rw [h', List.length_map] at hi
    show i < x.cps.size; simpa using hi
  | .lst _, h => ⟨xs, h, hi⟩
  | .tup _, h => ⟨xs, h, hi⟩
theorem Sr.is_upto {K : PySem.W.Frag} {H : Hp} {xs : List V} {i : Nat} (hi : i ≤ xs.length) : ∀ {S : Sr}, S.is K H xs → S.upto K i H
  | .txt x, h => by
    have h' : xs = x.cps.toList.map fun c => V.str ⟨#[c]⟩ := h
    rw [h', List.length_map] at hi
    show i ≤ x.cps.size; simpa using hi
  | .lst _, h => ⟨xs, h, hi⟩
  | .tup _, h => ⟨xs, h, hi⟩
theorem Sr.is_ends {K : PySem.W.Frag} {H : Hp} {xs : List V} {i : Nat} (hi : i = xs.length) : ∀ {S : Sr}, S.is K H xs → S.ends K i H
  | .txt x, h => by
    have h' : xs = x.cps.toList.map fun c => V.str ⟨#[c]⟩ := h
    rw [h', List.length_map] at hi
    show i = x.cps.size; simpa using hi
  | .lst _, h => ⟨xs, h, hi⟩
  | .tup _, h => ⟨xs, h, hi⟩
theorem Sr.is_val {K : PySem.W.Frag} {H : Hp} {xs : List V} {i : Nat} {v : V} : ∀ {S : Sr}, S.is K H xs → S.val K i H v → xs[i]? = some v
  | .txt x, h, ⟨c, e, ev⟩ => by
    have h' : xs = x.cps.toList.map fun c => V.str ⟨#[c]⟩ := h
    have e' : x.cps.toList[i]? = some c := by simpa using e
    rw [h', List.getElem?_map, e', ev]; rfl
  | .lst _, h, e => e xs h
  | .tup _, h, e => e xs h
theorem walk_zipX {K : PySem.W.Frag} {S1 S2 : Sr} {xs ys : List V} : Walk (ItzX K S1 S2) (min xs.length ys.length) (fun H => S1.is K H xs ∧ S2.is K H ys) (YPair (fun i => xs[i]?) (fun i => ys[i]?)) := by
  refine ⟨fun i _ hi q => ⟨Sr.is_has (by omega) q.1, Sr.is_has (by omega) q.2⟩, fun _ q => ⟨Sr.is_upto (by omega) q.1, Sr.is_upto (by omega) q.2, ?_⟩, fun i H v H' _ q y => ?_⟩
  · rcases Nat.le_total xs.length ys.length with h | h
    · exact .inl (Sr.is_ends (by omega) q.1)
    · exact .inr (Sr.is_ends (by omega) q.2)
  · obtain ⟨T, x, z, h1, h2, h3, h4, h5⟩ := y
    exact ⟨T, x, z, h1, h2, h3, Sr.is_val q.1 h4, Sr.is_val q.2 h5⟩
end LX
namespace LX
open PySem PySem.Spec PyProof.Rows L2 C8 SX
theorem lc_keepH {Rel : Hp → Hp → Prop} {J : It} {n : Nat} {G : Hp → Prop} {Y : Nat → Hp → V → Hp → Prop} {H1 : Hp} (kp : Keep Rel H1) (w : Walk J n G Y) {g : TG} {te : TE} {vs : List Nat} {σ : L2.St} {D : Addr} {Qd : Hp → Prop} (hD : H1 D = none) (hn : n < sizeLine)
    (Good : Nat → V → Hp → Prop) (hG : ∀ H, Rel H1 H → G H)
    (st : ∀ i y H H', Rel H1 H → Rel H H' → Good i y H → Good i y H') (pt : ∀ i y H acc o, Rel H1 H → H D = some (.lst acc) → Good i y H → Good i y (upd H D o))
    (hs : ∀ i x H H' acc (R : V → Hp → Prop), i < n → Rel H1 H → H D = some (.lst acc) → Y i H x H' → (∀ y H4, Rel H H4 → Good i y H4 → R y H4) → g x (wipe σ vs) H' fun σ2 H2 => wipe σ2 vs = wipe σ vs ∧ te σ2 H2 R)
    (hd : ∀ ys H, ys.length = n → (∀ (j : Nat) y, ys[j]? = some y → Good j y H) → Rel H1 H → H D = some (.lst ys) → Qd H) :
    ∃ W : Nat → Nat → Hp → Prop, (∃ m, W 0 m (upd H1 D (.lst []))) ∧ ∀ i m H, W i m H →
      (J.stop i H ∧ Qd H) ∨ (J.go i H ∧ ∃ Nx : Hp → Prop, (∀ H', Nx H' → ∃ m', m' < m ∧ W (i + 1) m' H') ∧ ∀ x H', J.yld i H x H' → g x (wipe σ vs) H' fun σ2 H2 => wipe σ2 vs = wipe σ vs ∧ tYes σ2 H2 fun b H3 =>
        if b = true then te σ2 H3 fun y H4 => ∃ acc, H4 D = some (.lst acc) ∧ acc.length < sizeLine ∧ Nx (upd H4 D (.lst (acc ++ [y]))) else Nx H3) := by
  refine lc_it w (fun i H => ∃ acc, acc.length = i ∧ H D = some (.lst acc) ∧ Rel H1 H ∧ ∀ (j : Nat) y, acc[j]? = some y → Good j y H) ⟨[], rfl, upd_same, kp.put _ _ _ kp.refl hD, fun j y e => by simp at e⟩ (fun i H _ ⟨_, _, _, r, _⟩ => hG H r) (fun i x H H' hi ⟨acc, hl, hDa, r, hg⟩ hy => ?_) (fun H ⟨acc, hl, hDa, r, hg⟩ => hd acc H hl hg r hDa)
  refine hs i x H H' acc _ hi r hDa hy fun y H4 r4 gy => ?_
  have hD4 := kp.get _ _ _ _ r4 hD r hDa
  have r5 := kp.trans _ _ r r4
  refine ⟨acc, hD4, by omega, acc ++ [y], by simp [hl], upd_same, kp.put _ _ _ r5 hD, fun j z e => ?_⟩
  rcases Nat.lt_or_ge j acc.length with h | h
  · rw [List.getElem?_append_left h] at e
    exact pt _ _ _ _ _ r5 hD4 (st _ _ _ _ r r4 (hg j z e))
  · rw [List.getElem?_append_right h] at e
    have hj : j - acc.length = 0 := by
      rcases Nat.lt_or_ge (j - acc.length) 1 with z | z
      · omega
      · rw [List.getElem?_eq_none (by simpa using z)] at e; cases e
    rw [hj] at e
    have : y = z := Option.some.inj e
    subst this
    have : j = i := by omega
    subst this
    exact pt _ _ _ _ _ r5 hD4 gy
end LX
namespace LX
open PySem PySem.Spec PyProof.Rows L2 C8 SX
def bx (x y z : Int) : HO := .lst [.int x, .int y, .int z]
def isBx (o : HO) : Prop := ∃ x y z : Int, o = bx x y z
def BoxAt (b : Addr) (H : Hp) : Prop := ∃ o, H b = some o ∧ isBx o
abbrev Bx (b : Addr) : Hp → Hp → Prop := Bk isBx b
theorem Bx.box {b : Addr} {H H' : Hp} (h : Bx b H H') : BoxAt b H' := h.2
theorem BoxAt.of {b : Addr} {H : Hp} {x y z : Int} (h : H b = some (bx x y z)) : BoxAt b H := ⟨_, h, _, _, _, rfl⟩
theorem Bx.mk {b : Addr} {H : Hp} (x y z : Int) : Bx b H (upd H b (bx x y z)) := ⟨fun a o n e => by rw [upd_ne n]; exact e, _, upd_same, _, _, _, rfl⟩
theorem Bx.trans {b : Addr} {H H1 H2 : Hp} (p : Bx b H H1) (q : Bx b H1 H2) : Bx b H H2 := ⟨fun a o n e => q.1 a o n (p.1 a o n e), q.2⟩
theorem box_ne {b p : Addr} {H : Hp} (h : BoxAt b H) (n : H p = none) : p ≠ b := by
  obtain ⟨o, e, _⟩ := h
  exact (ne_of_none e n).symm
theorem Bx.put {b p : Addr} {H H1 : Hp} {o : HO} (s : Bx b H H1) (h : BoxAt b H) (n : H p = none) : Bx b H (upd H1 p o) := (keep_bk h).put _ _ _ s n
theorem Bx.free {b p : Addr} {H H1 : Hp} (s : Bx b H H1) (n : H1 p = none) : H p = none := by
  cases q : H p with
  | none => rfl
  | some o =>
    by_cases e : p = b
    · subst e; obtain ⟨u, z, _⟩ := s.2; rw [n] at z; cases z
    · rw [s.1 p o e q] at n; cases n
theorem nil1 {σ : L2.St} {H : Hp} {R : List V → Hp → Prop} (h : R [] H) : tNil σ H R := h
theorem consc {v : V} {σ : L2.St} {H : Hp} {R : List V → Hp → Prop} (h : R [v] H) : tCons (tC v) tNil σ H R := h
theorem tc1 {v : V} {σ : L2.St} {H : Hp} {Q : VK} (h : Q v H) : tC v σ H Q := h
theorem ne_str {l r : Str} {H : Hp} {R : VK} (e : l = r) (h : R (.bl false) H) : rNe (.str l) (.str r) H R := ⟨rfl, by rw [decide_eq_true (by rw [e])]; exact h⟩
theorem bl_f {p : Bool → Prop} (h : p false) : ∃ k, V.bl false = V.bl k ∧ p k := ⟨false, rfl, h⟩
theorem if_f {p q : Prop} (h : q) : if false = true then p else q := h
theorem iteB {c : Bool} {A B : Prop} (hc : c = true) (h : A) : if c = true then A else B := by rw [if_pos hc]; exact h
theorem iteN {c : Bool} {A B : Prop} (hc : c = false) (h : B) : if c = true then A else B := by rw [hc]; exact iteF h
theorem perm_at {α : Type} : ∀ {xs : List α} {i : Nat} (h : i < xs.length), (xs[i] :: xs.eraseIdx i).Perm xs
  | x :: xs, 0, _ => List.Perm.refl _
  | x :: xs, i + 1, h => (List.Perm.swap x _ _).trans ((perm_at (xs := xs) (i := i) (Nat.lt_of_succ_lt_succ h)).cons x)
theorem eraseIdx_map' {α β : Type} (f : α → β) : ∀ (xs : List α) (i : Nat), (xs.map f).eraseIdx i = (xs.eraseIdx i).map f
  | [], i => by cases i <;> rfl
  | x :: xs, 0 => rfl
  | x :: xs, i + 1 => congrArg (f x :: ·) (eraseIdx_map' f xs i)
theorem perm_map_inv {α β : Type} {f : α → β} {g : β → α} (hg : ∀ a, g (f a) = a) {ys : List β} {xs : List α} (h : ys.Perm (xs.map f)) : ∃ zs : List α, ys = zs.map f ∧ zs.Perm xs := by
  refine ⟨ys.map g, ?_, ?_⟩
  · rw [List.map_map]
    have : ys.map (f ∘ g) = ys.map id := List.map_congr_left fun y hy => by
      obtain ⟨a, _, rfl⟩ := List.mem_map.mp (h.subset hy)
      show f (g (f a)) = f a
      rw [hg]
    rw [this, List.map_id]
  · have e := h.map g
    rw [List.map_map] at e
    have : xs.map (g ∘ f) = xs.map id := List.map_congr_left fun a _ => hg a
    rw [this, List.map_id] at e
    exact e
theorem sums_singles : ∀ l : List Nat, ((l.map fun c => S [c]).map (·.length)).sum = l.length
  | [] => rfl
  | c :: l => by simp only [List.map_cons, List.sum_cons, sums_singles l, List.length_cons]; rw [S_len]; simp; omega
theorem join_nil : ∀ ys : List (List Nat), TL.joinL [] ys = ys.flatten
  | [] => rfl
  | [y] => by simp [TL.joinL]
  | y :: z :: ys => by
    have ih := join_nil (z :: ys)
    simp [TL.joinL] at ih ⊢
    exact ih
theorem join_txs (ys : List (List Nat)) : Txt.join (S []) (ys.map S) = S ys.flatten := by rw [join_S, join_nil]
theorem flat_singles : ∀ l : List Nat, (l.map fun c => [c]).flatten = l
  | [] => rfl
  | c :: l => by rw [List.map_cons, List.flatten_cons, flat_singles l]; rfl
theorem join_singles (l : List Nat) : Txt.join (S []) (l.map fun c => S [c]) = S l := by
  have e1 : (l.map fun c => S [c]) = (l.map fun c => [c]).map S := by rw [List.map_map]; rfl
  rw [e1, join_txs, flat_singles]
theorem rising_singles : ∀ (ds : List Nat) (c : Nat), risingS (S [c]) (ds.map fun d => S [d]) = true → (∀ d ∈ ds, c ≤ d) ∧ ds.Pairwise (· ≤ ·)
  | [], _, _ => ⟨fun _ h => (nomatch h), .nil⟩
  | d :: ds, c, h => by
    have h' : (!ltCps [d] [c] && risingS (S [d]) (ds.map fun d => S [d])) = true := h
    rw [Bool.and_eq_true, Bool.not_eq_true'] at h'
    obtain ⟨h1, h2⟩ := h'
    obtain ⟨i1, i2⟩ := rising_singles ds d h2
    have hcd : c ≤ d := by
      rcases Nat.lt_or_ge d c with q | q
      · simp [ltCps, q] at h1
      · exact q
    refine ⟨fun e he => ?_, List.pairwise_cons.mpr ⟨i1, i2⟩⟩
    rcases List.mem_cons.mp he with rfl | he
    · exact hcd
    · exact Nat.le_trans hcd (i1 e he)
theorem sorted_singles {ds : List Nat} (h : sortedS (ds.map fun d => S [d]) = true) : ds.Pairwise (· ≤ ·) := by
  cases ds with
  | nil => exact .nil
  | cons d ds =>
    obtain ⟨i1, i2⟩ := rising_singles ds d h
    exact List.pairwise_cons.mpr ⟨i1, i2⟩
theorem strict_of {ds : List Nat} (h : ds.Pairwise (· ≤ ·)) (n : ds.Nodup) : ds.Pairwise (· < ·) :=
  (h.and n).imp fun ⟨a, b⟩ => Nat.lt_of_le_of_ne a b
open Classical in
theorem fun_of {α γ : Type} [DecidableEq α] [Inhabited γ] {sg : List α} (n : sg.Nodup) {P : Nat → α → γ → Prop} (h : ∀ j c, sg[j]? = some c → ∃ v, P j c v) : ∃ g : α → γ, ∀ j c, sg[j]? = some c → P j c (g c) := by
  refine ⟨fun c => if q : ∃ v, P (sg.idxOf c) c v then q.choose else default, fun j c e => ?_⟩
  have hj : j = sg.idxOf c := by
    obtain ⟨hl, e2⟩ := List.getElem?_eq_some_iff.mp e
    subst e2
    exact (n.idxOf_getElem j hl).symm
  have q : ∃ v, P (sg.idxOf c) c v := hj ▸ h j c e
  show P j c (dite _ _ _)
  rw [dif_pos q, hj]
  exact q.choose_spec
theorem paired_map {α β γ : Type} {R : α → β → Prop} {f : γ → α} {g : γ → β} : ∀ {l : List γ}, (∀ c ∈ l, R (f c) (g c)) → Paired R (l.map f) (l.map g)
  | [], _ => .nil
  | c :: l, h => .cons (h c List.mem_cons_self) (paired_map fun d hd => h d (List.mem_cons_of_mem _ hd))
abbrev tk (l : List Nat) : Key := Sum.inr (S l)
theorem tk_inj {l r : List Nat} (h : tk l = tk r) : l = r := by
  have e : S l = S r := Sum.inr.inj h
  have : (S l).cps.toList = (S r).cps.toList := by rw [e]
  simpa [S] using this
theorem valV_none {kvs : List (Key × V)} {k : Key} (h : ∀ p ∈ kvs, p.1 ≠ k) : valV kvs k = none := by
  unfold valV
  rw [List.find?_eq_none.mpr fun p hp => by simpa using h p hp]
  rfl
theorem valV_map' {α : Type} [DecidableEq α] {key : α → Key} (inj : ∀ a b, key a = key b → a = b) {f : α → V} : ∀ {l : List α} {c : α}, c ∈ l → valV (l.map fun a => (key a, f a)) (key c) = some (f c)
  | a :: l, c, h => by
    by_cases e : a = c
    · subst e; exact valV_pos rfl
    · rw [List.map_cons, valV_neg (fun q => e (inj _ _ q))]
      refine valV_map' inj ?_
      rcases List.mem_cons.mp h with q | q
      · exact absurd q.symm e
      · exact q
theorem merge_new : ∀ {more kvs : List (Key × V)}, (∀ p ∈ more, ∀ q ∈ kvs, q.1 ≠ p.1) → (more.map (·.1)).Nodup → mergeK kvs more = kvs ++ more
  | [], kvs, _, _ => by rw [List.append_nil]; rfl
  | p :: more, kvs, h, n => by
    have e : putK kvs p.1 p.2 = kvs ++ [p] := putK_new _ (valV_none fun q hq => h p List.mem_cons_self q hq)
    show mergeK (putK kvs p.1 p.2) more = _
    rw [List.map_cons, List.nodup_cons] at n
    rw [e, merge_new (fun r hr q hq => ?_) n.2, List.append_assoc]
    · rfl
    · rcases List.mem_append.mp hq with hq | hq
      · exact h r (List.mem_cons_of_mem _ hr) q hq
      · rw [List.mem_singleton] at hq
        subst hq
        exact fun e => n.1 (e ▸ List.mem_map_of_mem hr)
theorem merge_nil {more : List (Key × V)} (n : (more.map (·.1)).Nodup) : mergeK [] more = more := by
  rw [merge_new (fun _ _ q h => absurd h List.not_mem_nil) n]; rfl
theorem nodup_keys {α : Type} {key : α → Key} (inj : ∀ a b, key a = key b → a = b) {f : α → V} {l : List α} (n : l.Nodup) : ((l.map fun a => (key a, f a)).map (·.1)).Nodup := by
  rw [List.map_map]
  exact List.pairwise_map.mpr (n.imp fun h e => h (inj _ _ e))
theorem cut_to (ys : List (List Nat)) (k : Nat) : cutV (txs ys) none (some (k : Int)) = txs (ys.take k) := by
  unfold cutV
  rw [HT.sIx_none, HT.sIx_nat, List.drop_zero, Nat.sub_zero, txs_len]
  unfold txs
  rw [← List.map_take]
  rcases Nat.le_total k ys.length with h | h
  · rw [Nat.min_eq_left h]
  · rw [Nat.min_eq_right h, List.take_length, List.take_of_length_le h]
theorem tup_ne_box {H : Hp} {t b : Addr} {xs : List V} (hb : BoxAt b H) (ht : H t = some (.tup xs)) : t ≠ b := by
  obtain ⟨o, e, x, y, z, rfl⟩ := hb
  exact ne_of ht e (by intro h; cases h)
theorem dict_ne_box {H : Hp} {t b : Addr} {xs : List (Key × V)} (hb : BoxAt b H) (ht : H t = some (.dK xs)) : t ≠ b := by
  obtain ⟨o, e, x, y, z, rfl⟩ := hb
  exact ne_of ht e (by intro h; cases h)
theorem not_in_take {α : Type} [DecidableEq α] {ms : List α} {i : Nat} {m : α} (n : ms.Nodup) (h : ms[i]? = some m) : m ∉ ms.take i := fun hm => by
  obtain ⟨j, hj⟩ := List.getElem?_of_mem hm
  have hji : j < i := by
    have := (List.getElem?_eq_some_iff.mp hj).1
    rw [List.length_take] at this; omega
  rw [List.getElem?_take_of_lt hji] at hj
  have h1 := (List.getElem?_eq_some_iff.mp h)
  have h2 := (List.getElem?_eq_some_iff.mp hj)
  obtain ⟨a1, a2⟩ := h1
  obtain ⟨b1, b2⟩ := h2
  have e1 : ms.idxOf m = i := by subst a2; exact n.idxOf_getElem i a1
  have e2 : ms.idxOf m = j := by subst b2; exact n.idxOf_getElem j b1
  omega
theorem take_more {α : Type} {ms : List α} {i : Nat} {m : α} (h : ms[i]? = some m) : ms.take (i + 1) = ms.take i ++ [m] := by
  rw [List.take_succ, h]; rfl
theorem sz {n m : Nat} (h : n ≤ m) (hm : m ≤ 1000) : n ≤ sizeLine := Nat.le_trans (Nat.le_trans h hm) (show 1000 ≤ sizeLine by decide)
end LX
set_option maxHeartbeats 2000000
namespace LX
open PySem PySem.Spec PyProof.Rows L2 C8 SX
structure FnG (P : Program) (w : World) (K : PySem.W.Frag) (mg : Str → Option Value) (base : Heap) (k : Nat) (f : Addr) (fd : FuncData) (ps : List Str) (sp : Sp) : Prop where
  many : ∀ vs H Q E, sp vs H Q E → vs.length = ps.length
  goes : ∀ (A : Around) (ou : List Env) (t : Shared) (H : Hp) (gs : Args) (us : List Value) (vs : List V) (Q : VK) (E : XK), A.guards = some [] → Room k A → Env0 P w K mg base A ou t H → BindsTo t fd gs (ps.zip us) → Vals vs us →
    sp vs H Q E → codeAny (model P w) A (.call (.ref f) gs) (CR C8.CX0 ou P w H t Q E) t
theorem FnG.of {P : Program} {w : World} {K : PySem.W.Frag} {mg : Str → Option Value} {base : Heap} {k : Nat} {f : Addr} {fd : FuncData} {ps : List Str} {sp : Sp} (F : FnOk P w K mg base C8.CX0 k f fd ps sp) : FnG P w K mg base k f fd ps sp :=
  ⟨F.len, fun A ou t H gs us vs Q E _ => F.run A ou t H gs us vs Q E⟩
theorem fnG0 {P : Program} {w : World} {K : PySem.W.Frag} {mg : Str → Option Value} {base : Heap} {x ql : Str} {st : Stmt} {f : Addr} {fd : FuncData} {N ps : List Str} {k : Nat} {sp : Sp} (F : C8.Fun K x ql st f fd) (Sc : FnScope N ps (C8.fnScope st))
    (many : ∀ vs H Q E, sp vs H Q E → vs.length = ps.length)
    (h : ∀ (cd : Value) (A : Around) (ou : List Env) (t : Shared) (H : Hp) (vs : List V) (Q : VK) (E : XK), A.guards = some [] → Room k (A.deeper (envOfC ql (C8.fnScope st) t.heap.objs.size f cd)) → sp vs H Q E →
      ∃ r, PSs (cxOf C8.CX0 P w K mg base N ql (C8.fnScope st) f cd A ou t H E).nox (C8.fnBody st) r ∧ r { nx := fun _ H' => Q .non H', rt := Q } (L2.start N vs) H) : FnG P w K mg base (k + 1) f fd ps sp := by
  obtain ⟨oc, od, dV, kV, doc, pm, an, cd, ct, osl, rfl, at_, code⟩ := F.ex
  constructor
  · exact many
  intro A ou t H gs us vs Q E gd room e0 bound rel want
  have count := many _ _ _ _ want
  have old : ∀ (b : Addr) (o : Obj), base.get? b = some o → t.heap.get? b = some o := fun b o e => (e0.bs b o e).1
  have KT : K.In t.heap := e0.mod.kin.keeps old
  have kinds : ∀ y ∈ ps.zip us, (C8.fnScope st).names.lookup y.1 = some .local ∨ ((C8.fnScope st).names.lookup y.1 = some .cell ∧ ((cellsFrom (t.heap.objs.size + 1) (C8.fnScope st).names []).lookup y.1).isSome = true) := by
    intro y hy
    obtain ⟨n, v⟩ := y
    exact (Sc.par n (List.of_mem_zip hy).1).elim .inl fun q => .inr ⟨q, PySem.W.cellsFrom_some _ _ _ (.inl q)⟩
  refine codeAny_call_function room.depth (KT _ _ at_) rfl Sc.co Sc.gen rfl (PySem.W.codeRec_of KT code) (bound _ _ _ _ ?_)
  refine wpAny_newFunctionEnv_cells Sc.kind kinds fun en en_is t1 inside => ?_
  subst en_is
  refine ⟨(e0.mod.nolimit.keeps old).keeps inside.toInCall.keep, codeAny_func ?_⟩
  obtain ⟨r, body, read⟩ := h cd A ou t H vs Q E gd (room.deeper _) want
  have I0 := inv_start (CX := C8.CX0) (E := E) Sc room.hd e0 count rel inside
  refine wpAny_mono (body.nox.run [] t1 (L2.start N vs) H _ I0 read) (fun fl t' got => ?_) fun _ _ got => got
  cases fl with
  | ret u => exact let ⟨v, _, H', J, rv, q⟩ := got; ⟨v, H', J.os, J.bare, J.base, J.hok, rv, q⟩
  | next => exact let ⟨_, H', J, q⟩ := got; ⟨.non, H', J.os, J.bare, J.base, J.hok, rfl, q⟩
  | brk => exact let ⟨_, _, _, q⟩ := got; False.elim q
  | cont => exact let ⟨_, _, _, q⟩ := got; False.elim q
structure CalG (P : Program) (w : World) (K : PySem.W.Frag) (mg : Str → Option Value) (base : Heap) (k : Nat) (x : Str) (sp : Sp) : Prop where
  ex : ∃ (f : Addr) (fd : FuncData) (ps : List Str), FnG P w K mg base k f fd ps sp ∧ mg x = some (.ref f) ∧ PySem.W.keepIn K (.ref f) = true ∧ Binds K fd ps []
structure MetG (P : Program) (w : World) (K : PySem.W.Frag) (mg : Str → Option Value) (base : Heap) (k : Nat) (C : Addr) (m : Str) (sp : Sp) : Prop where
  ex : ∃ (f : Addr) (fd : FuncData) (ps : List Str), Cls K C ∧ Meth K C m f ∧ FnG P w K mg base k f fd ps sp ∧ Binds K fd ps []
section
variable {X : Cx} {k j : Nat} {f C : Addr} {fd : FuncData} {ps : List Str} {sp : Sp} {x m : Str} {p pos apos : Pos} {e o : Expr} {es : List Expr} {ta : TE} {t : TA}
theorem goesG {pins : List (Addr × Obj)} {σ : L2.St} {H : Hp} {s : Shared} {Q : VK} {us : List Value} {vs : List V} (F : FnG X.prog X.w X.K X.mg X.base k f fd ps sp) (gd : X.A.guards = some []) (room : Room k X.A) (bd : Binds X.K fd ps [])
    (I : Inv X pins σ H s) (rel : Vals vs us) (want : sp (vs ++ []) H Q C8.E0) : wpAny (model X.prog X.w) X.A (call (.ref f) us) (EP X pins σ Q) X.xe s := by
  rw [List.append_nil] at want
  have count : (us ++ []).length = ps.length := by rw [List.append_nil, ← rel.length]; exact F.many _ _ _ _ want
  have bs := bd s us I.kIn count
  rw [List.append_nil] at bs
  refine wpAny_call (codeAny_mono (F.goes X.A X.stack s H ⟨us, []⟩ us vs Q C8.E0 gd room I.env0 bs rel want) fun r t' got => ?_)
  match r, got with
  | .ok (.ret u), got => exact I.after got
theorem pe_cG (c : CalG X.prog X.w X.K X.mg X.base k x sp) (gd : X.A.guards = some []) (room : Room j X.A) (hk : k ≤ j) (hg : Gl X x) (ha : PA X (e :: es) t) (hdb : (x == ("__debug__" : Str)) = false := by decide)
    (he : starEach (e :: es) X.env = (false, eval e X.env) :: starEach es X.env := by rfl) (hpl : (backTo pos (starEach es X.env)).any (·.1) = false := by rfl) : PE X (.Call (.Name x p) (e :: es) [] pos) (tCall sp [] C8.E0 t) := by
  obtain ⟨f, fd, ps, F, named, kept, bd⟩ := c.ex
  constructor
  intro pins s σ H Q I want
  refine wpAny_Call_Name_kw (ld_glob I hg named ?_ hdb)
  refine PySem.W.callWith_K (h₀ := X.base) I.ok.mod.kin kept (thn (ha.run pos pins s σ H _ I want) ?_) he hpl
  rintro us s1 ⟨vs, H1, I1, rel, q⟩
  exact ⟨I1.kIn, goesG F gd (room.mono hk) bd I1 rel q⟩
theorem call_reprG (gd : X.A.guards = some []) (room : Room j X.A) : CallR X (.builtin "repr") (fun xs H Q => ∃ (a : Addr) (d : PyData), xs = [.ref a] ∧ Dp X.K H (.ref a) d ∧ d.showable = true ∧ d.hasDict = false ∧ d.depth ≤ 60 ∧ d.shown.length ≤ sizeLine ∧ Q (.str d.shown) H) := by
  intro pins s σ H xs us Q I rel want
  obtain ⟨a, d, rfl, hd, sh, nd, dep, sz, q⟩ := want
  obtain ⟨u, rfl, ru⟩ := vals1 rel
  obtain rfl : u = Value.ref a := ru
  obtain ⟨as, rd⟩ := Dp.reads I d (.ref a) (.ref a) hd rfl
  have un := room.un
  refine repr_of_reads' rd sh (PyData.noDict_hsm nd) gd (by omega) (fun _ _ z => z) (fun h' u tk kept => ?_) sz
  exact ⟨.str d.shown, H, I.kept kept, ⟨_, rfl⟩, q⟩
end
abbrev Done (s s' : Shared) (r : Result) : Prop := r = .ok (.ret (.bool true)) ∧ OldK s.heap s'.heap ∧ s'.os = s.os ∧ AllBare s'.gens
section
variable {P : Program} {w : World} {K : PySem.W.Frag} {mg mb : Str → Option Value} {k : Nat} {fa a : Addr} {fd : FuncData} {x : Str} {sp : Sp} {s : Shared} {vs : List Value} {ns : List Int}
theorem lawG_at {H : Hp} (KX : K.In s.heap) (hns : s.heap.Ns mainGlobals mg) (hb : s.heap.Ns builtinsNs mb) (hbb : ∀ x : Str, x ≠ "__name__" → mb x = bootBuiltins x) (lim : s.heap.NoLimit) (gens : s.gens = #[])
    (ha : s.heap.get? a = some { cls := .type "list", data := .seq vs.toArray }) (room : Room k callerA) (F : ∀ base : Heap, K.In base → base.Ns mainGlobals mg → FnG P w K mg base k fa fd [x] sp)
    (bd : ∀ (s : Shared) (u : Value), BindsTo s fd ⟨[u], []⟩ [(x, u)]) (only : Only H) (want : sp [.ref a] H (fun v _ => v = .bl true) C8.E0) (ok : HOk P w H s.heap) (at_a : ∀ b, H b ≠ none → b = a) (not_K : H a ≠ none → K.lookup a = none) :
    codeAny (model P w) callerA (.call (.ref fa) ⟨[.ref a], []⟩) (fun r s' => Done s s' r) s := by
  have free : ∀ {b : Addr}, b ≠ a → H b = none := fun {b} hn => by
    cases q : H b with
    | none => rfl
    | some u => exact absurd (at_a b (by rw [q]; simp)) hn
  have dict_free : ∀ {b : Addr} {o : Obj} {es : Array DictEntry} {ep : Nat}, s.heap.get? b = some o → o.data = .dict es ep → H b = none := fun {b o es ep} e d => free fun eq => by
    rw [eq, ha] at e
    cases e
    have d2 : Data.seq vs.toArray _ = Data.dict es ep := d
    cases d2
  have names : ∀ {b : Addr} {m : Str → Option Value}, s.heap.Ns b m → (hidT s.heap H).Ns b m := fun {b m} ⟨o, es, ep, e, d, r⟩ => ⟨o, es, ep, hidT_get e (dict_free e d), d, r⟩
  have hK : K.In (hidT s.heap H) := fun b o e => hidT_get (KX b o e) (by
    by_cases eq : b = a
    · subst eq
      cases q : H b with
      | none => rfl
      | some u => rw [not_K (by rw [q]; simp)] at e; cases e
    · exact free eq)
  have md : Mod K mg (hidT s.heap H) := by
    obtain ⟨mc, c1, c2⟩ := lim
    exact ⟨hK, names hns, ⟨mb, names hb, hbb⟩, mc, names c1, c2⟩
  have e0 : Env0 P w K mg (hidT s.heap H) callerA [] s H := ⟨rfl, md, fun _ _ e => of_hidT e, Nat.le_of_eq (hidT_size _ _), trivial, fun _ hm => absurd hm (List.not_mem_nil), ok, .of_eq gens⟩
  refine codeAny_mono ((F _ hK (names hns)).goes callerA [] s H ⟨[.ref a], []⟩ [.ref a] [.ref a] _ _ rfl room e0 (bd s (.ref a)) (.cons rfl .nil) want) fun r t got => ?_
  match r, got with
  | .ok (.ret u), got =>
    obtain ⟨v, H2, os, bare, un, ok2, rel, is_true⟩ := got
    obtain rfl : v = V.bl true := is_true
    obtain rfl : u = Value.bool true := rel
    refine ⟨rfl, OldK.of_keep fun b o e => ?_, os, bare⟩
    rcases only b with none_ | ⟨ob, xs, frozen⟩
    · exact un.keep b o e none_ (fun z => absurd z List.not_mem_nil) (by simp)
    · obtain ⟨e1, _⟩ := ok b _ frozen
      obtain ⟨e2, _⟩ := ok2 b _ (un.frzs b ob _ frozen)
      rw [e] at e1
      cases e1
      exact e2
theorem lawG_call (KX : K.In s.heap) (hns : s.heap.Ns mainGlobals mg) (hb : s.heap.Ns builtinsNs mb) (hbb : ∀ x : Str, x ≠ "__name__" → mb x = bootBuiltins x) (lim : s.heap.NoLimit) (gens : s.gens = #[])
    (ha : s.heap.get? a = some { cls := .type "list", data := .seq vs.toArray }) (hi : IntsAre vs ns) (hl : ns.length ≤ sizeLine) (room : Room k callerA) (F : ∀ base : Heap, K.In base → base.Ns mainGlobals mg → FnG P w K mg base k fa fd [x] sp)
    (bd : ∀ (s : Shared) (u : Value), BindsTo s fd ⟨[u], []⟩ [(x, u)]) (want : ∀ H : Hp, Only H → SqL K H a (ns.map V.int) → sp [.ref a] H (fun v _ => v = .bl true) C8.E0) :
    codeAny (model P w) callerA (.call (.ref fa) ⟨[.ref a], []⟩) (fun r s' => Done s s' r) s := by
  have rel := vals_ints hi
  cases own : K.lookup a with
  | some o =>
    have e := KX a o own
    rw [ha] at e
    cases e
    have only : Only (fun _ => none : Hp) := fun _ => .inl rfl
    have sq : SqL K (fun _ => none) a (ns.map V.int) := .inr ⟨_, vs.toArray, _, own, rfl, rfl, rfl, by rw [List.size_toArray, hi.length]; exact hl, by simpa using rel⟩
    refine lawG_at KX hns hb hbb lim gens ha room F bd only (want _ only sq) ?_ (fun b z => absurd rfl z) fun z => absurd rfl z
    intro b u z
    have z2 : (none : Option HO) = some u := z
    cases z2
  | none =>
    let one : HO := .frz { cls := .type "list", data := .seq vs.toArray } (.lst (ns.map V.int))
    let H : Hp := fun b => if b = a then some one else none
    have here : H a = some one := if_pos rfl
    have else_ : ∀ {b : Addr}, b ≠ a → H b = none := fun hn => if_neg hn
    have only : Only H := fun b => by
      by_cases e : b = a
      · exact .inr ⟨_, _, by rw [e]; exact here⟩
      · exact .inl (else_ e)
    refine lawG_at KX hns hb hbb lim gens ha room F bd only (want H only (.inl (.inr ⟨_, here⟩))) (fun b u z => ?_) (fun b z => ?_) fun _ => own
    · by_cases e : b = a
      · subst e
        rw [here] at z
        cases z
        exact ⟨ha, by rw [List.length_map]; exact hl, vs, _, rel, ha⟩
      · rw [else_ e] at z
        cases z
    · by_cases e : b = a
      · exact e
      · exact absurd (else_ e) z
end
theorem walkG {l : PySem.W.OpenLaw} {n k : Nat} {q : Program} {loose : List Str} {XP : (Str → Option Value) → Heap → Prop} {YP : World → Heap → Prop} {d : DefRec} {K : Params → PySem.W.Frag} {sp : PySem.W.Frag → Sp} {x : Str} (hn : l.most = some n) (hn2 : n ≤ sizeLine)
    (hdf : d.params.defaults = []) (room : Room k callerA) (hY : ∀ (w : World) (h : Heap), YP w h → (K w.params).In h)
    (F : ∀ (w : World) (mg : Str → Option Value) (fa : Addr) (h : Heap), (K w.params).In h → h.Ns mainGlobals mg → mg d.name = some (.ref fa) →
      ∃ fd : FuncData, (∀ (s : Shared) (u : Value), BindsTo s fd ⟨[u], []⟩ [(x, u)]) ∧ ∀ base : Heap, (K w.params).In base → base.Ns mainGlobals mg → FnG l.prog w (K w.params) mg base k fa fd [x] (sp (K w.params)))
    (want : ∀ (K : PySem.W.Frag) (H : Hp) (a : Addr) (ns : List Int), ns.length ≤ n → Only H → SqL K H a (ns.map V.int) → sp K [.ref a] H (fun v _ => v = .bl true) C8.E0) : PySem.W.WalkO q loose XP YP l.row.toRowW d [] (fun f vs => PySem.call f vs) := by
  refine Att.attach_call hn hdf ?_
  intro w s0 s1 mg mb fa o pm cd doc a vs ns G Y _ _ _ named list_ nums few gens
  have KX := hY w _ Y
  obtain ⟨fd, bd, F1⟩ := F w mg fa _ KX G.T.g named
  exact lawG_call KX G.T.g G.T.b G.T.builtins G.T.nolimit gens list_ nums (Nat.le_trans few hn2) room F1 bd fun H only sq => want _ H a ns few only sq
end LX
set_option maxHeartbeats 2000000
namespace LX
open PySem PySem.Spec PyProof.Rows L2 C8 SX
section
variable {prog : Program} {w : World} {A : Around} {E : Value → Shared → Prop} {s : Shared} {z TI TO i1 i2 : Addr} {fp1 fp2 : List Addr} {n1 n2 i : Nat} {P1 P2 : Nat → Value → Prop} {St1 St2 : Nat → Heap → Prop}
theorem zipD2_item_held {T : Addr} {f : Bool} {oT : Obj} {Q : Value → Shared → Prop} (S : ZipSep2 z TI TO i1 i2 fp1 fp2) (D1 : Draws prog w A i1 fp1 n1 P1 St1) (D2 : Draws prog w A i2 fp2 n2 P2 St2)
    (hz : IsZipHeld s.heap z TI TO T f) (hT : s.heap.get? T = some oT) (hTI : IsTupOf2 s.heap TI (.ref i1) (.ref i2)) (st1 : St1 i s.heap) (st2 : St2 i s.heap) (hlt1 : i < n1) (hlt2 : i < n2)
    (hQ : ∀ x1 x2 h' tk, P1 i x1 → P2 i x2 → IsZipHeld h' z TI TO T true → St1 (i + 1) h' → St2 (i + 1) h' → IsTupOf2 h' s.heap.objs.size x1 x2 → h'.objs.size = s.heap.objs.size + 1 →
      (∀ c o, c ≠ z → c ≠ i1 → c ≠ i2 → s.heap.get? c = some o → h'.get? c = some o) → Q (.ref s.heap.objs.size) { s with heap := h', toks := tk }) :
    wpAny (model prog w) A (Builtin.«zip.__next__» ⟨[.ref z], []⟩) (fun fin s' => ∃ v, fin = .done (.ret v) ∧ Q v s') E s := by
  show wpAny _ _ (field (.ref z) 2 >>= _) _ _ _
  refine wpAny_bind (wpAny_field hz rfl (x := .bool false) rfl ?_)
  show wpAny _ _ (field (.ref z) 3 >>= _) _ _ _
  refine wpAny_bind (wpAny_field hz rfl (x := .ref TI) rfl ?_)
  refine wpAny_bind (wpAny_seqItems hTI rfl ?_)
  show wpAny _ _ (Builtin.SmallTypes.ownedTupleIsFree (.ref z) >>= _) _ _ _
  refine wpAny_bind (wpAny_tupleHeld_zip hz hT fun h₁ hz₁ hs₁ => ?_)
  simp only [Bool.false_eq_true, if_false]
  refine wpAny_bind ?_
  rw [← Array.forIn_toList]
  simp only [List.forIn_cons, List.forIn_nil]
  refine wpAny_bind (wpAny_bind (wpAny_holding ?_))
  show wpAny _ _ (Builtin.SmallTypes.nextOf (.ref i1) >>= _) _ _ _
  refine wpAny_bind (D1.item i _ _ _ hlt1 (D1.over st1 hs₁ S.zf1) fun x1 h₂ tk₁ p1 h1₂ hs₂ => wpAny_pure ?_)
  refine wpAny_pure ?_
  refine wpAny_bind (wpAny_bind (wpAny_holding ?_))
  show wpAny _ _ (Builtin.SmallTypes.nextOf (.ref i2) >>= _) _ _ _
  refine wpAny_bind (D2.item i _ _ _ hlt2 (D2.over (D2.over st2 hs₁ S.zf2) hs₂ S.sep1_2) fun x2 h₃ tk₂ p2 h2₃ hs₃ => wpAny_pure ?_)
  refine wpAny_pure (wpAny_pure ?_)
  show wpAny _ _ (newTuple [x1, x2] >>= _) _ _ _
  refine wpAny_bind (wpAny_newTuple ?_)
  have hsz : h₃.objs.size = s.heap.objs.size := by rw [hs₃.1, hs₂.1, hs₁.1]
  have hz₃ : IsZipHeld h₃ z TI TO T true := hs₃.extBut _ _ S.zi2 (hs₂.extBut _ _ S.zi1 hz₁)
  have hk : ∀ c o, c ≠ z → c ≠ i1 → c ≠ i2 → s.heap.get? c = some o → h₃.get? c = some o := fun c o c1 c2 c3 e => hs₃.extBut _ _ c3 (hs₂.extBut _ _ c2 (hs₁.extBut _ _ c1 e))
  have h1₃ : St1 (i + 1) h₃ := D1.over h1₂ hs₃ S.sep2_1
  refine wpAny_pure ⟨_, rfl, ?_⟩
  show Q (.ref h₃.objs.size) _
  have hp : IsTupOf2 (h₃.push { cls := .type "tuple", data := .seq #[x1, x2] }) h₃.objs.size x1 x2 := Heap.get?_push_size _ rfl
  have hz4 : (h₃.push { cls := .type "tuple", data := .seq #[x1, x2] }).objs.size = h₃.objs.size + 1 := Heap.size_push ..
  rw [hsz] at hp hz4 ⊢
  exact hQ x1 x2 _ tk₂ p1 p2 (Heap.get?_push_of_some _ hz₃) (D1.frame _ _ _ h1₃ fun b _ o e => Heap.get?_push_of_some _ e) (D2.frame _ _ _ h2₃ fun b _ o e => Heap.get?_push_of_some _ e) hp hz4 fun c o c1 c2 c3 e => Heap.get?_push_of_some _ (hk c o c1 c2 c3 e)
theorem zipD2_end_held {T : Addr} {f : Bool} {oT : Obj} {Q : Fin → Shared → Prop} (S : ZipSep2 z TI TO i1 i2 fp1 fp2) (D1 : Draws prog w A i1 fp1 n1 P1 St1) (D2 : Draws prog w A i2 fp2 n1 P2 St2)
    (hz : IsZipHeld s.heap z TI TO T f) (hT : s.heap.get? T = some oT) (hTI : IsTupOf2 s.heap TI (.ref i1) (.ref i2)) (st1 : St1 n1 s.heap)
    (hE : ∀ h' e, (∀ c o, c ≠ z → c ≠ i1 → c ≠ i2 → s.heap.get? c = some o → h'.get? c = some o) → (∃ o, h'.get? e = some o ∧ o.cls = .type "StopIteration") → E (.ref e) { s with heap := h' }) :
    wpAny (model prog w) A (Builtin.«zip.__next__» ⟨[.ref z], []⟩) Q E s := by
  show wpAny _ _ (field (.ref z) 2 >>= _) _ _ _
  refine wpAny_bind (wpAny_field hz rfl (x := .bool false) rfl ?_)
  show wpAny _ _ (field (.ref z) 3 >>= _) _ _ _
  refine wpAny_bind (wpAny_field hz rfl (x := .ref TI) rfl ?_)
  refine wpAny_bind (wpAny_seqItems hTI rfl ?_)
  show wpAny _ _ (Builtin.SmallTypes.ownedTupleIsFree (.ref z) >>= _) _ _ _
  refine wpAny_bind (wpAny_tupleHeld_zip hz hT fun h₁ hz₁ hs₁ => ?_)
  simp only [Bool.false_eq_true, if_false]
  refine wpAny_bind ?_
  rw [← Array.forIn_toList]
  simp only [List.forIn_cons, List.forIn_nil]
  refine wpAny_bind (wpAny_bind (wpAny_holding ?_))
  show wpAny _ _ (Builtin.SmallTypes.nextOf (.ref i1) >>= _) _ _ _
  refine wpAny_bind (D1.done _ _ _ (D1.over st1 hs₁ S.zf1) fun h₂ e hs₂ he => ?_)
  exact hE h₂ e (fun c o c1 c2 _ x => hs₂ _ _ c2 (hs₁.extBut _ _ c1 x)) he
theorem pyNext_zipD2_item_held {T : Addr} {f : Bool} {oT : Obj} {Q : Option Value → Shared → Prop} (S : ZipSep2 z TI TO i1 i2 fp1 fp2) (D1 : Draws prog w A.in1 i1 fp1 n1 P1 St1) (D2 : Draws prog w A.in1 i2 fp2 n2 P2 St2)
    (hz : IsZipHeld s.heap z TI TO T f) (hT : s.heap.get? T = some oT) (hTI : IsTupOf2 s.heap TI (.ref i1) (.ref i2)) (st1 : St1 i s.heap) (st2 : St2 i s.heap) (hlt1 : i < n1) (hlt2 : i < n2)
    (hQ : ∀ x1 x2 h' tk, P1 i x1 → P2 i x2 → IsZipHeld h' z TI TO T true → St1 (i + 1) h' → St2 (i + 1) h' → IsTupOf2 h' s.heap.objs.size x1 x2 → h'.objs.size = s.heap.objs.size + 1 →
      (∀ c o, c ≠ z → c ≠ i1 → c ≠ i2 → s.heap.get? c = some o → h'.get? c = some o) → Q (some (.ref s.heap.objs.size)) { s with heap := h', toks := tk }) :
    wpAny (model prog w) A (pyNext (.ref z)) Q E s := by
  have hTy : s.TypeIs (.ref z) "zip" := ⟨_, hz, rfl⟩
  unfold pyNext
  exact wpAny_bind (wpAny_attempt (wpAny_callSpecial?_slot (name := Str.ofString "__next__") hTy F.slot_zip_next
    (wpAny_call_entry F.slot_zip_next hTy F.entry_zip_next
      (zipD2_item_held S D1 D2 hz hT hTI st1 st2 hlt1 hlt2 fun x1 x2 h' tk y1 y2 a1 a3 a4 a5 a6 a7 => wpAny_pure (hQ x1 x2 h' tk y1 y2 a1 a3 a4 a5 a6 a7)) (F.args_zip_next_1 _))))
theorem pyNext_zipD2_end_held {T : Addr} {f : Bool} {oT : Obj} {Q : Option Value → Shared → Prop} (S : ZipSep2 z TI TO i1 i2 fp1 fp2) (D1 : Draws prog w A.in1 i1 fp1 n1 P1 St1) (D2 : Draws prog w A.in1 i2 fp2 n1 P2 St2)
    (hz : IsZipHeld s.heap z TI TO T f) (hT : s.heap.get? T = some oT) (hTI : IsTupOf2 s.heap TI (.ref i1) (.ref i2)) (st1 : St1 n1 s.heap)
    (hQ : ∀ h', (∀ c o, c ≠ z → c ≠ i1 → c ≠ i2 → s.heap.get? c = some o → h'.get? c = some o) → Q none { s with heap := h' }) : wpAny (model prog w) A (pyNext (.ref z)) Q E s := by
  have hTy : s.TypeIs (.ref z) "zip" := ⟨_, hz, rfl⟩
  unfold pyNext
  refine wpAny_bind (wpAny_attempt (wpAny_callSpecial?_slot (name := Str.ofString "__next__") hTy F.slot_zip_next
    (wpAny_call_entry F.slot_zip_next hTy F.entry_zip_next (zipD2_end_held S D1 D2 hz hT hTI st1 fun h' e hk he => ?_) (F.args_zip_next_1 _))))
  obtain ⟨o, ho, hc⟩ := he
  refine wpAny_bind (wpAny_isInstance (T := "StopIteration") (b := true) ⟨o, ho, hc⟩ isSubtype_stop ?_)
  exact wpAny_pure (hQ _ hk)
theorem pairArg_zipD2 (S : ZipSep2 z TI TO i1 i2 fp1 fp2) (D1 : ∀ A : Around, A.handled = none → Draws prog w A i1 fp1 n1 P1 St1) (D2 : ∀ A : Around, A.handled = none → Draws prog w A i2 fp2 n1 P2 St2) :
    PairArg prog w "zip" z (z :: TI :: TO :: (fp1 ++ fp2)) [z, TO, i1, i2] n1 (fun i k v => P1 i k ∧ P2 i v)
      (fun h => IsZip h z TI TO .none ∧ IsTupOf2 h TI (.ref i1) (.ref i2) ∧ (∃ a b, IsTupOf2 h TO a b) ∧ St1 0 h ∧ St2 0 h ∧ ∀ b ∈ fp1 ++ fp2, ∃ o, h.get? b = some o) where
  type := fun s ok => ⟨_, ok.1, rfl⟩
  notDict := by decide
  keep := fun h h' ok hk => by
    obtain ⟨hz, hTI, ⟨a, b, hTO⟩, h1, h2, ex⟩ := ok
    exact ⟨hk _ _ hz, hk _ _ hTI, ⟨a, b, hk _ _ hTO⟩, (D1 callerA rfl).frame _ _ _ h1 fun b _ o e => hk b o e, (D2 callerA rfl).frame _ _ _ h2 fun b _ o e => hk b o e, fun b hb => let ⟨o, e⟩ := ex b hb; ⟨o, hk _ _ e⟩⟩
  there := fun h ok b hb => by
    obtain ⟨hz, hTI, ⟨a, c, hTO⟩, _, _, ex⟩ := ok
    rcases List.mem_cons.mp hb with rfl | hb
    · exact ⟨_, hz⟩
    rcases List.mem_cons.mp hb with rfl | hb
    · exact ⟨_, hTI⟩
    rcases List.mem_cons.mp hb with rfl | hb
    · exact ⟨_, hTO⟩
    exact ex b hb
  sub := fun b hb => by
    have e : b = z ∨ b = TO ∨ b = i1 ∨ b = i2 := by simpa using hb
    rcases e with rfl | rfl | rfl | rfl
    · simp
    · simp
    · have := S.mem1; simp [this]
    · have := S.mem2; simp [this]
  noKeys := fun A s Q E hA ok h => getAttrOr_miss_zip ok.1 rfl rfl rfl zip_no_keys (by decide +kernel) hA h
  iter := fun A s d Q E hA ok hd hdf h => by
    obtain ⟨hz, hTI, ⟨a, b, hTO⟩, h1, h2, _⟩ := ok
    have dz : d ≠ z := fun e => hdf (by simp [e])
    have dTI : d ≠ TI := fun e => hdf (by simp [e])
    have dTO : d ≠ TO := fun e => hdf (by simp [e])
    have df1 : ∀ b ∈ fp1, b ≠ d := fun b hb e => hdf (by subst e; simp [hb])
    have df2 : ∀ b ∈ fp2, b ≠ d := fun b hb e => hdf (by subst e; simp [hb])
    have dI1 := (df1 _ S.mem1).symm
    have dI2 := (df2 _ S.mem2).symm
    refine wpAny_pyIter_zip hz (h z [z, TO, i1, i2] (fun i h => IsTupOf2 h TI (.ref i1) (.ref i2) ∧ St1 i h ∧ St2 i h ∧
      ((IsZip h z TI TO .none ∧ ∃ a b, IsTupOf2 h TO a b) ∨ ∃ T f oT, IsZipHeld h z TI TO T f ∧ h.get? T = some oT ∧ T ≠ z ∧ T ≠ i1 ∧ T ≠ i2 ∧ T ≠ d)) s.heap s.toks ?_
      ⟨hTI, h1, h2, .inl ⟨hz, a, b, hTO⟩⟩ (fun _ _ e => e) fun b hb => .inl hb)
    exact {
      off := fun hm => by
        have e : d = z ∨ d = TO ∨ d = i1 ∨ d = i2 := by simpa using hm
        rcases e with e | e | e | e
        · exact dz e
        · exact dTO e
        · exact dI1 e
        · exact dI2 e
      frame := fun i h₁ h₂ st hk => by
        obtain ⟨hTI, h1, h2, hz⟩ := st
        refine ⟨hk _ _ (Ne.symm dTI) hTI, (D1 A hA).frame _ _ _ h1 fun b hb o e => hk b o (df1 b hb) e, (D2 A hA).frame _ _ _ h2 fun b hb o e => hk b o (df2 b hb) e, ?_⟩
        rcases hz with ⟨hz, a, b, hTO⟩ | ⟨T, f, oT, hz, hT, r1, r2, r3, r4⟩
        · exact .inl ⟨hk _ _ (Ne.symm dz) hz, a, b, hk _ _ (Ne.symm dTO) hTO⟩
        · exact .inr ⟨T, f, oT, hk _ _ (Ne.symm dz) hz, hk _ _ r4 hT, r1, r2, r3, r4⟩
      item := fun i s₁ Q₁ E₁ hi st hds hQ => by
        obtain ⟨hTI, h1, h2, hz⟩ := st
        have lt : ∀ {c o}, s₁.heap.get? c = some o → s₁.heap.objs.size ≠ c := fun e => Nat.ne_of_gt (Heap.lt_size e)
        have n1' : s₁.heap.objs.size ≠ i1 := let ⟨_, e⟩ := (D1 A hA).live _ _ h1; lt e
        have n2' : s₁.heap.objs.size ≠ i2 := let ⟨_, e⟩ := (D2 A hA).live _ _ h2; lt e
        rcases hz with ⟨hz, a, b, hTO⟩ | ⟨T, f, oT, hz, hT, r1, r2, r3, r4⟩
        · refine wpAny_pyNext_zipD2_item S (D1 A.in1 hA) (D2 A.in1 hA) hz hTI hTO h1 h2 hi hi fun x1 x2 h' tk p1 p2 a1 a2 a3 a4 a5 a6 hk => ?_
          exact hQ s₁.heap.objs.size _ _ h' tk ⟨p1, p2⟩ (.inl ⟨_, a5, rfl, _, rfl⟩)
            ⟨hk _ _ S.TIz S.TITO S.TIi1 S.TIi2 hTI, a3, a4, .inr ⟨s₁.heap.objs.size, false, _, a1, a5, lt hz, n1', n2', Nat.ne_of_gt hds⟩⟩
            fun c o hc e => hk c o (fun x => hc (by simp [x])) (fun x => hc (by simp [x])) (fun x => hc (by simp [x])) (fun x => hc (by simp [x])) e
        · refine pyNext_zipD2_item_held S (D1 A.in1 hA) (D2 A.in1 hA) hz hT hTI h1 h2 hi hi fun x1 x2 h' tk p1 p2 a1 a3 a4 a5 a6 hk => ?_
          exact hQ s₁.heap.objs.size _ _ h' tk ⟨p1, p2⟩ (.inl ⟨_, a5, rfl, _, rfl⟩)
            ⟨hk _ _ S.TIz S.TIi1 S.TIi2 hTI, a3, a4, .inr ⟨T, true, oT, a1, hk _ _ r1 r2 r3 hT, r1, r2, r3, r4⟩⟩
            fun c o hc e => hk c o (fun x => hc (by simp [x])) (fun x => hc (by simp [x])) (fun x => hc (by simp [x])) e
      done := fun s₁ Q₁ E₁ st hQ => by
        obtain ⟨hTI, h1, h2, hz⟩ := st
        rcases hz with ⟨hz, a, b, hTO⟩ | ⟨T, f, oT, hz, hT, r1, r2, r3, r4⟩
        · exact wpAny_pyNext_zipD2_end S (D1 A.in1 hA) (D2 A.in1 hA) hz hTI hTO h1 h2 (Nat.le_refl _) (Nat.le_refl _) (.inl rfl) fun h' tk hk => hQ h' tk
            fun c o hc e => hk c o (fun x => hc (by simp [x])) (fun x => hc (by simp [x])) (fun x => hc (by simp [x])) (fun x => hc (by simp [x])) e
        · exact pyNext_zipD2_end_held S (D1 A.in1 hA) (D2 A.in1 hA) hz hT hTI h1 fun h' hk => hQ h' s₁.toks
            fun c o hc e => hk c o (fun x => hc (by simp [x])) (fun x => hc (by simp [x])) (fun x => hc (by simp [x])) e }
end
theorem zip_map_get {α β γ : Type} (f : α → β → γ) : ∀ (l : List α) (m : List β) (i : Nat), ((l.zip m).map fun p => f p.1 p.2)[i]? = (l[i]?.bind fun a => m[i]?.map fun b => f a b)
  | [], _, i => by simp
  | a :: l, [], i => by cases h : (a :: l)[i]? <;> simp
  | a :: l, b :: m, 0 => rfl
  | a :: l, b :: m, i + 1 => by simpa using zip_map_get f l m i
theorem paired_zip {l : List Nat} : ∀ {ys : List V} {its : List Value}, Vals ys its → KV ((l.zip ys).map fun p => (tk [p.1], p.2)) ((l.zip its).map fun p => (tk [p.1], p.2)) := by
  induction l with
  | nil => intro ys its _; exact .nil
  | cons c l ih =>
    intro ys its r
    cases r with
    | nil => exact .nil
    | cons h t => exact .cons ⟨rfl, h⟩ (ih t)
def tDictZip (K : PySem.W.Frag) (ta : TA) : TE := fun σ H Q => ta σ H fun vs H1 => ∃ (l : List Nat) (b : Addr) (ys : List V), vs = [.str (S l), .ref b] ∧ SqT K H1 b ys ∧ ys.length = l.length ∧ l.length ≤ 1000 ∧
  ∀ p, H1 p = none → Q (.ref p) (upd H1 p (.dK (mergeK [] ((l.zip ys).map fun p => (tk [p.1], p.2)))))
theorem pe_dictZip {X : Cx} {e e2 : Expr} {ta : TA} {p p2 pos pos2 : Pos} (hc : X.calm = true) (hgd : Gl X "dict") (hmd : X.mg "dict" = none) (hg : Gl X "zip") (hm : X.mg "zip" = none) (ha : PA X [e, e2] ta)
    (hs : starEach [e, e2] X.env = (false, eval e X.env) :: starEach [e2] X.env := by rfl) (hpl : (backTo pos2 (starEach [e2] X.env)).any (·.1) = false := by rfl)
    (hs' : starEach [.Call (.Name "zip" p2) [e, e2] [] pos2] X.env = (false, eval (.Call (.Name "zip" p2) [e, e2] [] pos2) X.env) :: starEach [] X.env := by rfl) (hpl' : (backTo pos (starEach [] X.env)).any (·.1) = false := by rfl) :
    PE X (.Call (.Name "dict" p) [.Call (.Name "zip" p2) [e, e2] [] pos2] [] pos) (tDictZip X.K ta) := by
  refine ⟨fun pins s σ H Q I h => ?_⟩
  refine Call_ (ld_blt I hgd hmd PyProof.Rows.boot_dict (PyProof.Rows.callWith_type1 (Q := EP X pins σ Q) ?_ hs' hpl'))
  rw [hs']
  refine PySem.Calls.spliced_cons ?_
  refine Call_ (ld_blt I hg hm PyProof.Rows.boot_zip (PyProof.Rows.callWith_type1 (thn (ha.run pos2 pins s σ H _ I h) fun us s1 ⟨vs, H1, I1, r1, q1⟩ => ?_) hs hpl))
  obtain ⟨l, b, ys, ex, hb, hl, hz, q⟩ := q1
  subst ex
  obtain ⟨u, u', rfl, r, r'⟩ := vals2 r1
  obtain ⟨t, rfl⟩ := (show ∃ t, u = Value.str (S l) t from r)
  obtain rfl : u' = Value.ref b := r'
  obtain ⟨its, rv, ht, _⟩ := I1.tuple hb
  have hlen : its.toArray.size = (S l).cps.size := by rw [List.size_toArray, ← rv.length, hl]; simp [S]
  have hbl : b < s1.heap.objs.size := ht.lt
  refine zip_begins2 (begins_text (S l) t) (begins_tuple b its.toArray) trivial ht fun h' hz' hTI hTO h1 h2 hsz hk => ?_
  refine PySem.Calls.spliced_nil ?_
  have I2 : Inv X pins σ H1 { s1 with heap := h' } := I1.kept (t' := s1.toks) hk
  have f2 : ∀ a ∈ [b], a < s1.heap.objs.size := fun a h => by rw [List.mem_singleton.mp h]; exact hbl
  have S2 := PySem.zip_sep2 (N := s1.heap.objs.size) (fp1 := []) (fp2 := [b]) (fun _ h => nomatch h) f2
  have P := pairArg_zipD2 (prog := X.prog) (w := X.w) S2 (fun A hh => Draws.text hh s1.heap.objs.size (S l) t)
    (fun A hh => hlen ▸ Draws.tuple hh (s1.heap.objs.size + 1) b (Nat.ne_of_lt (Nat.lt_succ_of_lt hbl)) its.toArray)
  have ht2 : h'.IsTuple b its.toArray := (show s1.heap.IsTuple b its.toArray from ht).at fun o e => hk _ _ e
  have hn : H1 h'.objs.size = none := I2.hok.fresh (Nat.le_refl _)
  have hl2 : its.length = l.length := by rw [← rv.length, hl]
  refine PySem.call_dict_pairs (knd := mixKind X.prog X.w) (kvs := (l.zip its).map fun p => (tk [p.1], p.2)) P (I1.ok.hd hc) ?_ ⟨?_, ?_⟩ ?_ fun h3 tk3 hd3 hk3 => ?_
  · refine ⟨hz', hTI, ⟨_, _, hTO⟩, ⟨_, h1, rfl, rfl⟩, ⟨⟨_, h2, rfl, rfl⟩, ht2⟩, fun a ha => ?_⟩
    have e : a = s1.heap.objs.size ∨ a = s1.heap.objs.size + 1 ∨ a = b := by simpa using ha
    rcases e with rfl | rfl | rfl
    · exact ⟨_, h1⟩
    · exact ⟨_, h2⟩
    · obtain ⟨o, e, _⟩ := ht2; exact ⟨o, e⟩
  · rw [List.length_map, List.length_zip, hl2, Nat.min_self]; simp [S]
  · rintro i key v ⟨⟨c, u, hc', rfl⟩, hv⟩
    have hc2 : l[i]? = some c := by simpa [S] using hc'
    have hv2 : its[i]? = some v := by simpa using hv
    refine ⟨tk [c], ?_, kV_is (P := X.prog) (w := X.w) (k := tk [c]) ⟨u, rfl⟩⟩
    rw [zip_map_get (fun a b => (tk [a], b)), hc2, hv2]; rfl
  · simp [S]; exact Nat.le_trans hz (by decide)
  · have kvr : KV ((l.zip ys).map fun p => (tk [p.1], p.2)) ((l.zip its).map fun p => (tk [p.1], p.2)) := paired_zip rv
    have hm' : (h'.objs.size == sysModules) = false := beq_eq_false_iff_ne.mpr (Nat.ne_of_gt I2.big)
    have hlen2 : (mergeK [] ((l.zip ys).map fun p => (tk [p.1], p.2))).length ≤ sizeLine := by
      refine Nat.le_trans (length_mergeK _ []) ?_
      rw [List.length_nil, Nat.zero_add, List.length_map, List.length_zip, hl, Nat.min_self]
      exact Nat.le_trans hz (by decide)
    have keep3 : ∀ c o, s1.heap.get? c = some o → h3.get? c = some o := fun c o e => hk3 c o (fun hm => by
      have hlt : c < s1.heap.objs.size := Heap.lt_size e
      have e' : c = s1.heap.objs.size + 4 ∨ c = s1.heap.objs.size + 3 ∨ c = s1.heap.objs.size ∨ c = s1.heap.objs.size + 1 := by simpa using hm
      have hle : s1.heap.objs.size ≤ c := by
        rcases e' with z | z | z | z
        · rw [z]; exact Nat.le_add_right _ _
        · rw [z]; exact Nat.le_add_right _ _
        · rw [z]; exact Nat.le_refl _
        · rw [z]; exact Nat.le_add_right _ _
      exact Nat.lt_irrefl _ (Nat.lt_of_lt_of_le hlt hle)) (hk _ _ e)
    have hsz5 : s1.heap.objs.size ≤ h'.objs.size := by rw [hsz]; omega
    exact ⟨.ref h'.objs.size, upd H1 h'.objs.size (.dK (mergeK [] ((l.zip ys).map fun p => (tk [p.1], p.2)))), I1.laid (t' := tk3) keep3 hsz5 (show ObjOk X.prog X.w _ _ _ (.dK _) from ⟨hlen2, hm', merged [] _, KV.merge kvr .nil, hd3⟩), rfl, q _ hn⟩
end LX
set_option maxHeartbeats 2000000
namespace LX
open PySem PySem.Spec PyProof.Rows L2 C8 SX
theorem meets_enum1 {v : Value} {o : Obj} {H : Heap → Prop} (B : Begins v o H) :
    Meets (Builtin.«enumerate.__new__» ⟨[.type "enumerate", v], []⟩) (fun _ R s => H s.heap ∧
      R (.ok (.ret (.ref (s.heap.push o).objs.size))) { s with heap := (s.heap.push o).push { cls := .type "enumerate", data := .fields #[.none, .bool false, .ref s.heap.objs.size, rawInt 0, .none, .none] } }) :=
  .of_wp fun prog w A R s h => by
    obtain ⟨hp, g, d, tk, os⟩ := s; obtain ⟨h1, h⟩ := h
    have hsub := sub_enumerate
    have q1 : ∀ {A' : Around} {E : Value → Shared → Prop} {Q : Value → Shared → Prop}, Q (.ref hp.objs.size) ⟨hp.push o, g, d, tk, os⟩ → wpAny (model prog w) A' (pyIter v) Q E ⟨hp, g, d, tk, os⟩ :=
      fun q => B.iter prog w _ _ ⟨hp, g, d, tk, os⟩ _ h1 q
    wp_walk using q1
    refine wpAny_stack_any fun st => wpAny_pure ?_
    split
    · rename_i c _ _ _ _ _
      cases (c == Value.type "enumerate")
      · wp_walk using q1
        exact ⟨_, rfl, h⟩
      · wp_walk using q1
        exact ⟨_, rfl, h⟩
    · wp_walk using q1
      exact ⟨_, rfl, h⟩
theorem enum1_begins {prog : Program} {w : World} {A : Around} {E : Value → Shared → Prop} {s : Shared} {v : Value} {o : Obj} {H : Heap → Prop} {Q : Value → Shared → Prop} (B : Begins v o H) (h1 : H s.heap)
    (h : ∀ h', IsEnum h' (s.heap.objs.size + 1) s.heap.objs.size 0 .none → h'.get? s.heap.objs.size = some o → h'.objs.size = s.heap.objs.size + 2 →
      (∀ b o, s.heap.get? b = some o → h'.get? b = some o) → Q (.ref (s.heap.objs.size + 1)) { s with heap := h' }) :
    wpAny (model prog w) A (call (.type "enumerate") [v]) Q E s := by
  refine callType_new F.called_enumerate (by decide) (F.typeCall_enumerate_1 _) (F.newCall_enumerate_1 _) (fun obj => F.args_object_init_2 obj _) F.entry_enumerate_new
    (meets_enum1 B) ⟨h1, ?_⟩
  have hz : (s.heap.push o).objs.size = s.heap.objs.size + 1 := Heap.size_push ..
  show _ ∧ _
  rw [hz]
  have he : IsEnum ((s.heap.push o).push { cls := .type "enumerate", data := .fields #[.none, .bool false, .ref s.heap.objs.size, rawInt 0, .none, .none] }) (s.heap.objs.size + 1) s.heap.objs.size 0 .none := by
    have := Heap.get?_push_size (s.heap.push o) (o := { cls := .type "enumerate", data := .fields #[.none, .bool false, .ref s.heap.objs.size, rawInt 0, .none, .none] }) rfl
    rw [hz] at this; exact this
  refine ⟨⟨_, he, rfl⟩, h _ he (Heap.get?_push_of_some _ (Heap.get?_push_size _ B.free)) (by rw [Heap.size_push, hz]) fun b o x => Heap.get?_push_of_some _ (Heap.get?_push_of_some _ x)⟩
def IteX (K : PySem.W.Frag) (S : Sr) : It :=
  ⟨fun i H => S.has K i H, fun i H v H' => ∃ T x, v = .ref T ∧ H T = none ∧ H' = upd H T (.tup [.int (i : Nat), x]) ∧ S.val K i H x, fun i H => S.upto K i H ∧ S.ends K i H⟩
theorem turn_enumX {P : Program} {w : World} {K : PySem.W.Frag} {elts : List Expr} {kk : Nat} {tpos : Pos} {e it : Addr} (S : Sr) (n1 : ∀ a ∈ S.fp, a ≠ it) (ne : e ≠ it) (nf : e ∉ S.fp) :
    Turn P w K (.Tuple elts kk tpos) (IteX K S) [e, it] e (fun i h => (∃ old, IsEnum h e it ((i : Nat) : Int) old) ∧ S.tn it i h) where
  mem := by simp
  obj := fun i h st b hb => by
    obtain ⟨⟨old, he⟩, h1⟩ := st
    have e' : b = e ∨ b = it := by simpa using hb
    rcases e' with z | z
    · rw [z]; exact ⟨_, he, fun v q => nomatch q⟩
    · rw [z]; exact Sr.tn_obj h1
  keep := fun i h h' st k => let ⟨⟨old, he⟩, h1⟩ := st; ⟨⟨old, k e (by simp) _ he⟩, Sr.tn_keep h1 fun o q => k it (by simp) o q⟩
  item := by
    intro X hP hw hK hc i pins s σ H E I hf st hg
    subst hP hw hK
    obtain ⟨⟨old, he⟩, h1⟩ := st
    obtain ⟨m1, ⟨P1, St1, D1, st1, v1, t1⟩, _, lt1, _⟩ := S.draws I n1 h1 (Sr.has_upto hg)
    have hel : e < s.heap.objs.size := Heap.lt_size he
    have hil : it < s.heap.objs.size := by obtain ⟨_, q, _⟩ := Sr.tn_obj h1; exact Heap.lt_size q
    refine wpAny_pyNext_enum_itemD (D1 _ (I.ok.hd hc)) he st1 (lt1 hg) ne (by simp [ne, nf]) fun u h' tk p1 ho st1' hT hsz hk => ?_
    obtain ⟨x, hx, rx⟩ := v1 u p1
    refine ⟨_, rfl, wpAny_letOwnedTupleGo_enum (s := { s with heap := h', toks := tk + 1 }) ho fun h'' he' sb => ?_⟩
    have hT2 : h''.get? s.heap.objs.size = some { cls := .type "tuple", data := .seq #[.int i tk, u] } := (sb.2 _ (Nat.ne_of_gt hel)).trans hT
    have new : ObjOk X.prog X.w (upd H s.heap.objs.size (.tup [.int (i : Nat), x])) h'' s.heap.objs.size (.tup [.int (i : Nat), x]) :=
      ⟨by show 2 ≤ sizeLine; decide, [.int i tk, u], .cons ⟨_, rfl⟩ (.cons rx .nil), ⟨_, hT2, rfl, _, rfl⟩⟩
    have I1 : Inv X pins σ (upd H s.heap.objs.size (.tup [.int (i : Nat), x])) { s with heap := h'', toks := tk + 1 } :=
      I.turnedNew (ch := [e, it]) (fun b ob hb q => (sb.2 b (fun z => hb (by simp [z]))).trans (hk b ob (fun z => hb (by simp [z])) (fun z => hb (by simp [z])) q)) hf (Nat.le_refl _) new
    refine ⟨.ref s.heap.objs.size, _, I1, rfl, ⟨_, x, rfl, I.hok.fresh (Nat.le_refl _), rfl, hx⟩, ⟨⟨u, ?_⟩, Sr.tn_keep (t1 _ _ st1') fun o q => (sb.2 it (Ne.symm ne)).trans q⟩, fun b hb => ?_⟩
    · have e1 : ((i + 1 : Nat) : Int) = (i : Int) + 1 := by omega
      rw [e1]; exact he'
    · have hb' : b < s.heap.objs.size := by
        have e' : b = e ∨ b = it := by simpa using hb
        rcases e' with z | z
        · rw [z]; exact hel
        · rw [z]; exact hil
      rw [upd_ne (Nat.ne_of_lt hb')]
      exact (hf b hb).1
  done := by
    intro X hP hw hK hc i pins s σ H E I hf st hg
    subst hP hw hK
    obtain ⟨⟨old, he⟩, h1⟩ := st
    obtain ⟨g1, ge⟩ := hg
    obtain ⟨m1, ⟨P1, St1, D1, st1, v1, t1⟩, _, _, eq1⟩ := S.draws I n1 h1 g1
    obtain ⟨f0, f1, f2, f3, f4, f5⟩ := hf it (by simp)
    have e1 := eq1 ge
    subst e1
    exact wpAny_pyNext_enum_endD (D1 _ (I.ok.hd hc)) he st1 fun h' eb => ⟨rfl, I.turned (t' := s.toks) (fun b o hb q => eb b o hb q) f0 f1 f3 f4 f5⟩
  self := fun A i s Q E st h => let ⟨⟨_, he⟩, _⟩ := st; wpAny_pyIter_enum he h
def iEnumX (K : PySem.W.Frag) (ta : TA) : TI := fun σ H R => ta σ H fun vs H1 => ∃ (x : V) (S : Sr), vs = [x] ∧ S.of x ∧ S.there K H1 ∧ R (IteX K S) H1
theorem pi_enumX {X : Cx} {e : Expr} {ta : TA} {p pos tpos : Pos} {elts : List Expr} {kk : Nat} (hg : Gl X "enumerate") (hm : X.mg "enumerate" = none) (ha : PA X [e] ta) (hs : starEach [e] X.env = [(false, eval e X.env)] := by rfl) :
    PI X (.Tuple elts kk tpos) (.Call (.Name "enumerate" p) [e] [] pos) (iEnumX X.K ta) := by
  refine ⟨fun pins s σ H R I h => ?_⟩
  refine Call_ (ld_blt I hg hm PyProof.Rows.boot_enumerate (PyProof.Rows.callWith_type1 (thn (ha.run pos pins s σ H _ I h) fun us s1 ⟨vs, H1, I1, r1, q1⟩ => ?_) hs rfl))
  obtain ⟨x, S, ex, e1, th1, q⟩ := q1
  subst ex
  obtain ⟨u, rfl, r⟩ := vals1 r1
  obtain ⟨o1, HH1, B1, b1, f1, t1⟩ := Sr.begins I1 r e1 th1
  refine enum1_begins B1 b1 fun h' he hit hsz hk => wpAny_pyIter_enum he ?_
  have I2 : Inv X pins σ H1 { s1 with heap := h' } := I1.kept (t' := s1.toks) hk
  refine ⟨s1.heap.objs.size + 1, [s1.heap.objs.size + 1, s1.heap.objs.size], _, _, H1, rfl, I2, turn_enumX S (fun a ha => Nat.ne_of_lt (f1 a ha)) (Nat.succ_ne_self _) (fun hm => Nat.not_lt.mpr (Nat.le_add_right _ _) (f1 _ hm)), ⟨⟨.none, he⟩, t1 _ _ hit⟩, fun b hb => ?_, q⟩
  have e' : b = s1.heap.objs.size + 1 ∨ b = s1.heap.objs.size := by simpa using hb
  have hle : s1.heap.objs.size ≤ b := by
    rcases e' with z | z
    · rw [z]; exact Nat.le_add_right _ _
    · rw [z]; exact Nat.le_refl _
  exact I1.fpOk hle (I1.hok.fresh hle)
theorem walk_enumX {K : PySem.W.Frag} {S : Sr} {xs : List V} : Walk (IteX K S) xs.length (fun H => S.is K H xs) (YPair (fun i => some (.int (i : Nat))) (fun i => xs[i]?)) := by
  refine ⟨fun i H hi q => Sr.is_has hi q, fun H q => ⟨Sr.is_upto (Nat.le_refl _) q, Sr.is_ends rfl q⟩, fun i H v H' _ q y => ?_⟩
  obtain ⟨T, x, h1, h2, h3, h4⟩ := y
  exact ⟨T, .int (i : Nat), x, h1, h2, h3, rfl, Sr.is_val q h4⟩
theorem dc_keep {Rel : Hp → Hp → Prop} {J : It} {n : Nat} {G : Hp → Prop} {Y : Nat → Hp → V → Hp → Prop} {H1 : Hp} (kp : Keep Rel H1) (w : Walk J n G Y) {g : TG} {ka te : TE} {vs : List Nat} {σ : L2.St} {D : Addr} {Qd : Hp → Prop} (hD : H1 D = none) (hn : n < sizeLine)
    (key : Nat → Key) (Good : Nat → V → Hp → Prop) (hG : ∀ H, Rel H1 H → G H) (inj : ∀ i j, i < n → j < i → key j ≠ key i)
    (st : ∀ i y H H', Rel H1 H → Rel H H' → Good i y H → Good i y H') (pt : ∀ i y H acc o, Rel H1 H → H D = some (.dK acc) → Good i y H → Good i y (upd H D o))
    (hs : ∀ i x H H' acc (R : V → V → Hp → Prop), i < n → Rel H1 H → H D = some (.dK acc) → Y i H x H' → (∀ y H4, Rel H H4 → Good i y H4 → R (kV (key i)) y H4) → g x (wipe σ vs) H' fun σ2 H2 => wipe σ2 vs = wipe σ vs ∧ ka σ2 H2 fun k H3 => te σ2 H3 fun z H4 => R k z H4)
    (hd : ∀ ys H, ys.length = n → (∀ (j : Nat) y, ys[j]? = some y → Good j y H) → Rel H1 H → H D = some (.dK ((List.range n).zip ys |>.map fun p => (key p.1, p.2))) → Qd H) :
    ∃ W : Nat → Nat → Hp → Prop, (∃ m, W 0 m (upd H1 D (.dK []))) ∧ ∀ i m H, W i m H →
      (J.stop i H ∧ Qd H) ∨ (J.go i H ∧ ∃ Nx : Hp → Prop, (∀ H', Nx H' → ∃ m', m' < m ∧ W (i + 1) m' H') ∧ ∀ x H', J.yld i H x H' → g x (wipe σ vs) H' fun σ2 H2 => wipe σ2 vs = wipe σ vs ∧ tYes σ2 H2 fun b H3 =>
        if b = true then ka σ2 H3 fun y H4 => te σ2 H4 fun z H5 => ∃ kvs k, y = kV k ∧ H5 D = some (.dK kvs) ∧ kvs.length < sizeLine ∧ Nx (upd H5 D (.dK (putK kvs k z))) else Nx H3) := by
  refine ⟨fun i m H => m = n - i ∧ i ≤ n ∧ ∃ ys : List V, ys.length = i ∧ H D = some (.dK ((List.range i).zip ys |>.map fun p => (key p.1, p.2))) ∧ Rel H1 H ∧ ∀ (j : Nat) y, ys[j]? = some y → Good j y H, ⟨n, by omega, Nat.zero_le _, [], rfl, upd_same, kp.put _ _ _ kp.refl hD, fun j y e => by simp at e⟩, ?_⟩
  rintro i m H ⟨rfl, hi, ys, hl, hDa, r, hg⟩
  rcases Nat.lt_or_ge i n with h | h
  · refine .inr ⟨w.goes i H h (hG H r), fun H' => ∃ ys : List V, ys.length = i + 1 ∧ H' D = some (.dK ((List.range (i + 1)).zip ys |>.map fun p => (key p.1, p.2))) ∧ Rel H1 H' ∧ ∀ (j : Nat) y, ys[j]? = some y → Good j y H', fun H' h' => ⟨n - (i + 1), by omega, rfl, h, h'⟩, fun x H' hy => ?_⟩
    have key2 : ∀ (z : V) H5, Rel H H5 → Good i z H5 → ∃ kvs k, kV (key i) = kV k ∧ H5 D = some (.dK kvs) ∧ kvs.length < sizeLine ∧ ∃ ys : List V, ys.length = i + 1 ∧ (upd H5 D (.dK (putK kvs k z))) D = some (.dK ((List.range (i + 1)).zip ys |>.map fun p => (key p.1, p.2))) ∧ Rel H1 (upd H5 D (.dK (putK kvs k z))) ∧ ∀ (j : Nat) y, ys[j]? = some y → Good j y (upd H5 D (.dK (putK kvs k z))) := fun z H5 r5 gz => by
      have hD5 := kp.get _ _ _ _ r5 hD r hDa
      have r6 := kp.trans _ _ r r5
      refine ⟨_, key i, rfl, hD5, by rw [List.length_map, List.length_zip, List.length_range, hl]; omega, ys ++ [z], by simp [hl], ?_, kp.put _ _ _ r6 hD, fun j y e => ?_⟩
      · rw [upd_same]
        congr 2
        rw [putK_new _ (valV_none fun p hp => ?_), List.range_succ, List.zip_append (by rw [List.length_range, hl])]
        · simp
        · obtain ⟨q, hq, rfl⟩ := List.mem_map.mp hp
          have : q.1 < i := List.mem_range.mp (List.of_mem_zip hq).1
          exact inj i q.1 h this
      · rcases Nat.lt_or_ge j ys.length with h | h
        · rw [List.getElem?_append_left h] at e
          exact pt _ _ _ _ _ r6 hD5 (st _ _ _ _ r r5 (hg j y e))
        · rw [List.getElem?_append_right h] at e
          have hj : j - ys.length = 0 := by
            rcases Nat.lt_or_ge (j - ys.length) 1 with z | z
            · omega
            · rw [List.getElem?_eq_none (by simpa using z)] at e; cases e
          rw [hj] at e
          have : z = y := Option.some.inj e
          subst this
          have : j = i := by omega
          subst this
          exact pt _ _ _ _ _ r6 hD5 gz
    exact hs i x H H' _ (fun k z H5 => ∃ kvs k', k = kV k' ∧ H5 D = some (.dK kvs) ∧ kvs.length < sizeLine ∧ ∃ ys : List V, ys.length = i + 1 ∧ (upd H5 D (.dK (putK kvs k' z))) D = some (.dK ((List.range (i + 1)).zip ys |>.map fun p => (key p.1, p.2))) ∧ Rel H1 (upd H5 D (.dK (putK kvs k' z))) ∧ ∀ (j : Nat) y, ys[j]? = some y → Good j y (upd H5 D (.dK (putK kvs k' z)))) h r hDa (w.yields i H x H' h (hG H r) hy) fun y H4 r4 gy => key2 y H4 r4 gy
  · have : i = n := by omega
    subst this
    exact .inl ⟨w.stops H (hG H r), hd ys H hl hg r hDa⟩
end LX
set_option maxHeartbeats 4000000
namespace LX
open PySem PySem.Spec PyProof.Rows L2 C8 SX
theorem inK {X : Cx} (K : PySem.W.Frag) (h : X.K = K := by rfl) : OpR X (compareOp .In) (rIn K false) := by subst h; exact op_in_seq
theorem notInK {X : Cx} (K : PySem.W.Frag) (h : X.K = K := by rfl) : OpR X (compareOp .NotIn) (rIn K true) := by subst h; exact op_notIn_seq
section
variable {prog : Program} {w : World} {A : Around} {R : Result → Shared → Prop} {I S : Addr} {fp wr : List Addr} {G : Array GenState → Array GenState → Prop} {n : Nat} {P : Nat → Value → Prop} {St : Nat → Shared → Prop}
abbrev setO (led : Bool) : Obj := { cls := .type "set", dict := none, data := .set #[] 0 (.fresh 0 0 led) }
abbrev Elem (prog : Program) (w : World) (xs : List Str) (i : Nat) (S : Addr) (h : Heap) : Prop := h.SetOf (PySem.strKind prog w) S (fun k => decide (k ∈ xs.take i)) i
theorem Elem.stay {xs : List Str} {i : Nat} {h h' : Heap} (e : Elem prog w xs i S h) (k : ∀ o, h.get? S = some o → h'.get? S = some o) : Elem prog w xs i S h' :=
  let ⟨o, es, ep, tb, ho, rest⟩ := e; ⟨o, es, ep, tb, k o ho, rest⟩
theorem set_loopT (W : WalksS prog w A.in1 I fp wr G n P St) (off : S ∉ fp) {xs : List Str} (hl : xs.length = n) (nd : xs.Nodup) (room : n < scanBound) (val : ∀ i v, P i v → ∃ x t, xs[i]? = some x ∧ v = .str x t) :
    ∀ (k i : Nat) (s : Shared), i + k = n → St i s → Elem prog w xs i S s.heap → (∀ s', Moved (S :: wr) G s s' → Elem prog w xs n S s'.heap → R (.ok (.ret .none)) s') →
      codeAny (model prog w) A (.builtin "set.update.loop" ⟨[.ref S, .ref I], []⟩) R s
  | 0, i, s, hk, hst, he, hR => by
    obtain rfl : i = n := hk
    refine codeAny_builtin PyProof.Rows.F.entry_set_update_loop ?_
    rw [Around.under_plainId PyProof.Rows.F.plain_set_update_loop _]
    refine wpAny_bind (W.done s _ _ hst fun s' hm => wpAny_pure (hR s' (hm.mono fun b hb => List.mem_cons_of_mem _ hb) (he.stay fun o e => hm.heap S o (fun h => off (W.sub _ h)) e)))
  | k + 1, i, s, hk, hst, he, hR => by
    refine codeAny_builtin PyProof.Rows.F.entry_set_update_loop ?_
    rw [Around.under_plainId PyProof.Rows.F.plain_set_update_loop _]
    refine wpAny_bind (W.item i s _ _ (by omega) hst fun v s' hP hst' hm => ?_)
    obtain ⟨x, t, hx, rfl⟩ := val i v hP
    have he' : Elem prog w xs i S s'.heap := he.stay fun o e => hm.heap S o (fun h => off (W.sub _ h)) e
    show wpAny _ A.in1 (holding [Value.str x t] (setAdd S (.str x t)) >>= _) _ _ s'
    refine wpAny_bind (wpAny_holding ?_)
    unfold setAdd
    refine wpAny_holding (wpAny_bind ((PySem.strKind prog w).pyHash (k := x) (strKind_is _ _ _ _) ?_))
    refine wpAny_setAddHashed_of (knd := PySem.strKind prog w) (s := { s' with toks := s'.toks + 1 }) (strKind_is _ _ _ _) rfl he' (by omega) fun h' hsb hS2 => ?_
    have hni : x ∉ xs.take i := not_in_take nd hx
    have he2 : Elem prog w xs (i + 1) S h' := SetOf_congr hS2 (fun y => by rw [take_more hx]; by_cases e : y ∈ xs.take i <;> by_cases e2 : y = x <;> simp [e, e2]) (by rw [if_neg (by simpa using hni)])
    refine wpAny_pure ⟨plainId_quiet PyProof.Rows.F.plain_set_update_loop _, set_loopT W off hl nd room val k (i + 1) _ (by omega) (W.frame _ s' _ _ hst' (Nat.le_succ _) fun b hb o e => ?_) he2 fun s2 hm2 he3 => ?_⟩
    · rw [hsb.2 b (fun h => off (h ▸ hb))]; exact e
    · refine hR s2 (Moved.trans W.gtrans ((hm.mono fun b hb => List.mem_cons_of_mem _ hb).then_heap (Nat.le_succ _) fun b o hb e => ?_) hm2) he3
      rw [hsb.2 b (fun h => hb (by rw [h]; exact List.mem_cons_self))]; exact e
end
section
variable {prog : Program} {w : World} {A : Around} {E : Value → Shared → Prop} {s : Shared}
theorem set_of_list {l : Addr} {items : Array Value} {xs : List Str} {Q : Value → Shared → Prop} (hh : A.handled = none) (hl : s.heap.IsList l items) (hi : PyProof.Rows.StrsAre items.toList xs) (nd : xs.Nodup) (room : xs.length < scanBound)
    (h : ∀ (h' : Heap) (tk : Nat), Elem prog w xs xs.length s.heap.objs.size h' → (∀ b o, s.heap.get? b = some o → h'.get? b = some o) → Q (.ref s.heap.objs.size) { s with heap := h', toks := tk }) :
    wpAny (model prog w) A (call (.type "set") [.ref l]) Q E s := by
  obtain ⟨c, tl, hmro⟩ := PySem.F.called_set.mro
  have hmade := PySem.F.called_set.made
  have hsub := PySem.F.called_set.sub
  refine wpAny_call (codeAny_of_tree ?_)
  refine wpAny_pure ⟨Code.quiet_builtin _ (by decide +kernel), codeAny_builtin PySem.F.entry_type_call ?_⟩
  rw [Around.under_plain (weight_type_call_type "set" [.ref l] []) rfl]
  have nt := PySem.F.called_set.notType
  have cc := PySem.F.called_set.canCreate
  have ct := PySem.F.typeCall_set_1 (.ref l)
  repeat (any_goals (first | assumption | wp_step))
  refine codeAny_mono (code_set_new_1 (.ref l) (E := E) (Q₁ := fun obj s1 => ∃ led : Bool, obj = .ref s.heap.objs.size ∧ s1 = { s with heap := s.heap.push { cls := .type "set", dict := none, data := .set #[] 0 (.fresh 0 0 led) } }) fun led => ⟨led, rfl, rfl⟩) fun r s1 hr => ?_
  match r, hr with
  | .ok (.ret obj), hr =>
    obtain ⟨led, rfl, rfl⟩ := hr
    have hS : (s.heap.push (setO led)).get? s.heap.objs.size = some (setO led) := Heap.get?_push_size _ rfl
    have hTy : Shared.TypeIs { s with heap := s.heap.push (setO led) } (.ref s.heap.objs.size) "set" := ⟨_, hS, rfl⟩
    have li := PySem.F.called_set.init.lookup
    have bi := PySem.F.called_set.init.bind (.ref s.heap.objs.size)
    repeat (any_goals (first | assumption | wp_step))
    refine codeAny_mono (codeAny_call_builtin (R := wants (fun r s2 => r = .none ∧ ∃ h' tk, s2 = { s with heap := h', toks := tk } ∧ Elem prog w xs xs.length s.heap.objs.size h' ∧ (∀ b o, s.heap.get? b = some o → h'.get? b = some o)) E)
      PySem.F.called_set.init.plain PySem.F.entry_set_init (check_set_init_1 hTy ?_)) fun r2 s2 hr2 => ?_
    · obtain ⟨⟨oc, od, odt, osl⟩, hol, hcl, nl, hdl⟩ := hl
      dsimp only at hcl hdl
      subst hcl hdl
      have hol' : (s.heap.push (setO led)).get? l = some { cls := .type "list", dict := od, data := .seq items nl, slots := osl } := Heap.get?_push_of_some _ hol
      have ss := PySem.F.sub_list_set
      have sf := PySem.F.sub_list_frozenset
      have ne : (Value.type "list" == Value.type "dict") = false := by decide
      have hl1 : (s.heap.push (setO led)).IsList l items := ⟨_, hol', rfl, nl, rfl⟩
      unfold Builtin.«set.__init__» noKeywords Builtin.Frozenset.updateFrom
      generalize hPI : pyIter = PI
      wp_walk
      subst hPI
      refine wpAny_pyIter_list hl1 ?_
      refine wpAny_bind (wpAny_runValue ?_)
      have hlS : l < s.heap.objs.size := Heap.lt_size hol
      have hz : (s.heap.push (setO led)).objs.size = s.heap.objs.size + 1 := Heap.size_push ..
      have neI : l ≠ (s.heap.push (setO led)).objs.size := by rw [hz]; exact Nat.ne_of_lt (Nat.lt_succ_of_lt hlS)
      have off : s.heap.objs.size ∉ [(s.heap.push (setO led)).objs.size, l] := by
        rw [hz]; simp only [List.mem_cons, List.not_mem_nil, or_false, not_or]
        exact ⟨Nat.ne_of_lt (Nat.lt_succ_self _), Nat.ne_of_gt hlS⟩
      have hsz : xs.length = items.size := by rw [← StrsAre.len_eq hi, Array.length_toList]
      refine set_loopT (xs := xs) ((Walks.list (A := A.in1.in1.in1) (by simp [hh]) _ l neI items).toS) off hsz nd (by rw [← hsz]; exact room) (fun i v hv => ?_) items.size 0 _ (Nat.zero_add _) ⟨⟨_, Heap.get?_push_size _ rfl, rfl, rfl⟩, hl1.push _⟩ ?_ fun s' hm hS' => ?_
      · obtain ⟨t, e⟩ := SS.strs_at hi i v (by rw [Array.getElem?_toList]; exact hv)
        have hlt : i < xs.length := by rw [hsz]; exact (Array.getElem?_eq_some_iff.mp hv).1
        exact ⟨xs[i], t, List.getElem?_eq_getElem hlt, by rw [e, List.getD_eq_getElem?_getD, List.getElem?_eq_getElem hlt]; rfl⟩
      · exact PyProof.Rows.SetOf_congr ((PyProof.Rows.setObjOf_fresh (knd := PySem.strKind prog w) led).setOf (Heap.get?_push_of_some _ hS) (by unfold scanBound; omega)) (fun _ => by simp) rfl
      · obtain ⟨h', g', d', tk', os'⟩ := s'
        obtain rfl : g' = s.gens := hm.gens
        obtain rfl : d' = s.drawn := hm.drawn
        obtain rfl : os' = s.os := hm.os
        refine wpAny_pure (wpAny_pure ⟨rfl, h', tk', rfl, by rw [hsz]; exact hS', fun b o e => ?_⟩)
        have hb : b < s.heap.objs.size := Heap.lt_size e
        refine hm.heap b o (fun hmem => ?_) (Heap.get?_push_of_some _ (Heap.get?_push_of_some _ e))
        have e' : b = s.heap.objs.size ∨ b = (s.heap.push (setO led)).objs.size := by simpa using hmem
        rcases e' with e' | e'
        · exact Nat.ne_of_lt hb e'
        · rw [hz] at e'; exact Nat.ne_of_lt (Nat.lt_succ_of_lt hb) e'
    · match r2, hr2 with
      | .ok (.ret r), hr2 =>
        obtain ⟨rfl, h', tk, rfl, hS', hk'⟩ := hr2
        repeat (any_goals (first | assumption | wp_step))
        exact h _ _ hS' hk'
      | .error e, hr2 => exact hr2
  | .error e, hr => exact hr
end
section
variable {prog : Program} {w : World} {A : Around} {E : Value → Shared → Prop} {s : Shared}
theorem set_of_tuple {l : Addr} {items : Array Value} {xs : List Str} {Q : Value → Shared → Prop} (hh : A.handled = none) (hl : s.heap.IsTuple l items) (hi : PyProof.Rows.StrsAre items.toList xs) (nd : xs.Nodup) (room : xs.length < scanBound)
    (h : ∀ (h' : Heap) (tk : Nat), Elem prog w xs xs.length s.heap.objs.size h' → (∀ b o, s.heap.get? b = some o → h'.get? b = some o) → Q (.ref s.heap.objs.size) { s with heap := h', toks := tk }) :
    wpAny (model prog w) A (call (.type "set") [.ref l]) Q E s := by
  obtain ⟨c, tl, hmro⟩ := PySem.F.called_set.mro
  have hmade := PySem.F.called_set.made
  have hsub := PySem.F.called_set.sub
  refine wpAny_call (codeAny_of_tree ?_)
  refine wpAny_pure ⟨Code.quiet_builtin _ (by decide +kernel), codeAny_builtin PySem.F.entry_type_call ?_⟩
  rw [Around.under_plain (weight_type_call_type "set" [.ref l] []) rfl]
  have nt := PySem.F.called_set.notType
  have cc := PySem.F.called_set.canCreate
  have ct := PySem.F.typeCall_set_1 (.ref l)
  repeat (any_goals (first | assumption | wp_step))
  refine codeAny_mono (code_set_new_1 (.ref l) (E := E) (Q₁ := fun obj s1 => ∃ led : Bool, obj = .ref s.heap.objs.size ∧ s1 = { s with heap := s.heap.push { cls := .type "set", dict := none, data := .set #[] 0 (.fresh 0 0 led) } }) fun led => ⟨led, rfl, rfl⟩) fun r s1 hr => ?_
  match r, hr with
  | .ok (.ret obj), hr =>
    obtain ⟨led, rfl, rfl⟩ := hr
    have hS : (s.heap.push (setO led)).get? s.heap.objs.size = some (setO led) := Heap.get?_push_size _ rfl
    have hTy : Shared.TypeIs { s with heap := s.heap.push (setO led) } (.ref s.heap.objs.size) "set" := ⟨_, hS, rfl⟩
    have li := PySem.F.called_set.init.lookup
    have bi := PySem.F.called_set.init.bind (.ref s.heap.objs.size)
    repeat (any_goals (first | assumption | wp_step))
    refine codeAny_mono (codeAny_call_builtin (R := wants (fun r s2 => r = .none ∧ ∃ h' tk, s2 = { s with heap := h', toks := tk } ∧ Elem prog w xs xs.length s.heap.objs.size h' ∧ (∀ b o, s.heap.get? b = some o → h'.get? b = some o)) E)
      PySem.F.called_set.init.plain PySem.F.entry_set_init (check_set_init_1 hTy ?_)) fun r2 s2 hr2 => ?_
    · obtain ⟨⟨oc, od, odt, osl⟩, hol, hcl, nl, hdl⟩ := hl
      dsimp only at hcl hdl
      subst hcl hdl
      have hol' : (s.heap.push (setO led)).get? l = some { cls := .type "tuple", dict := od, data := .seq items nl, slots := osl } := Heap.get?_push_of_some _ hol
      have ss := PySem.F.sub_tuple_set
      have sf := PySem.F.sub_tuple_frozenset
      have ne : (Value.type "tuple" == Value.type "dict") = false := by decide
      have hl1 : (s.heap.push (setO led)).IsTuple l items := ⟨_, hol', rfl, nl, rfl⟩
      unfold Builtin.«set.__init__» noKeywords Builtin.Frozenset.updateFrom
      generalize hPI : pyIter = PI
      wp_walk
      subst hPI
      refine wpAny_pyIter_tuple hl1 ?_
      refine wpAny_bind (wpAny_runValue ?_)
      have hlS : l < s.heap.objs.size := Heap.lt_size hol
      have hz : (s.heap.push (setO led)).objs.size = s.heap.objs.size + 1 := Heap.size_push ..
      have neI : l ≠ (s.heap.push (setO led)).objs.size := by rw [hz]; exact Nat.ne_of_lt (Nat.lt_succ_of_lt hlS)
      have off : s.heap.objs.size ∉ [(s.heap.push (setO led)).objs.size, l] := by
        rw [hz]; simp only [List.mem_cons, List.not_mem_nil, or_false, not_or]
        exact ⟨Nat.ne_of_lt (Nat.lt_succ_self _), Nat.ne_of_gt hlS⟩
      have hsz : xs.length = items.size := by rw [← StrsAre.len_eq hi, Array.length_toList]
      refine set_loopT (xs := xs) ((Walks.tuple (A := A.in1.in1.in1) (by simp [hh]) _ l neI items).toS) off hsz nd (by rw [← hsz]; exact room) (fun i v hv => ?_) items.size 0 _ (Nat.zero_add _) ⟨⟨_, Heap.get?_push_size _ rfl, rfl, rfl⟩, hl1.push _⟩ ?_ fun s' hm hS' => ?_
      · obtain ⟨t, e⟩ := SS.strs_at hi i v (by rw [Array.getElem?_toList]; exact hv)
        have hlt : i < xs.length := by rw [hsz]; exact (Array.getElem?_eq_some_iff.mp hv).1
        exact ⟨xs[i], t, List.getElem?_eq_getElem hlt, by rw [e, List.getD_eq_getElem?_getD, List.getElem?_eq_getElem hlt]; rfl⟩
      · exact PyProof.Rows.SetOf_congr ((PyProof.Rows.setObjOf_fresh (knd := PySem.strKind prog w) led).setOf (Heap.get?_push_of_some _ hS) (by unfold scanBound; omega)) (fun _ => by simp) rfl
      · obtain ⟨h', g', d', tk', os'⟩ := s'
        obtain rfl : g' = s.gens := hm.gens
        obtain rfl : d' = s.drawn := hm.drawn
        obtain rfl : os' = s.os := hm.os
        refine wpAny_pure (wpAny_pure ⟨rfl, h', tk', rfl, by rw [hsz]; exact hS', fun b o e => ?_⟩)
        have hb : b < s.heap.objs.size := Heap.lt_size e
        refine hm.heap b o (fun hmem => ?_) (Heap.get?_push_of_some _ (Heap.get?_push_of_some _ e))
        have e' : b = s.heap.objs.size ∨ b = (s.heap.push (setO led)).objs.size := by simpa using hmem
        rcases e' with e' | e'
        · exact Nat.ne_of_lt hb e'
        · rw [hz] at e'; exact Nat.ne_of_lt (Nat.lt_succ_of_lt hb) e'
    · match r2, hr2 with
      | .ok (.ret r), hr2 =>
        obtain ⟨rfl, h', tk, rfl, hS', hk'⟩ := hr2
        repeat (any_goals (first | assumption | wp_step))
        exact h _ _ hS' hk'
      | .error e, hr2 => exact hr2
  | .error e, hr => exact hr
end
section
variable {X : Cx}
def tLenSetT (K : PySem.W.Frag) (ta : TE) : TE := fun σ H Q => ta σ H fun x H1 => ∃ (l : Addr) (xs : List (List Nat)), x = V.ref l ∧ (SqL K H1 l (txs xs) ∨ SqT K H1 l (txs xs)) ∧ xs.length < 60 ∧ xs.Nodup ∧ Q (.int xs.length) H1
theorem nodup_S {xs : List (List Nat)} (h : xs.Nodup) : (xs.map S).Nodup := List.pairwise_map.mpr (h.imp fun n e => n (by have : (S _).cps.toList = (S _).cps.toList := congrArg (fun z : Str => z.cps.toList) e; simpa [S] using this))
theorem pe_lenSetT {a : Expr} {ta : TE} {p p2 q pos : Pos} (hc : X.calm = true) (hg : Gl X "len") (hm : X.mg "len" = none) (hg2 : Gl X "set") (hm2 : X.mg "set" = none) (ha : PE X a ta)
    (na : starEach [a] X.env = (false, eval a X.env) :: starEach [] X.env := by rfl) : PE X (.Call (.Name "len" p) [.Call (.Name "set" p2) [a] [] q] [] pos) (tLenSetT X.K ta) := by
  refine ⟨fun pins s σ H Q I h => ?_⟩
  refine Call_ (ld_blt I hg hm PySem.boot_len (PyProof.Rows.callWith_builtin1 (PyProof.Rows.args_cons ?_ rfl) rfl rfl))
  refine Call_ (ld_blt I hg2 hm2 PyProof.Rows.boot_set (PyProof.Rows.callWith_type1 (PyProof.Rows.args_cons (thn (ha.run pins s σ H _ I h) fun v s1 ⟨x, H1, I1, r1, q1⟩ => PyProof.Rows.args_nil ?_) na) na rfl))
  obtain ⟨l, xs, rfl, hq, h1, hnd, q1⟩ := q1
  cases r1
  have e0 : txs xs = (xs.map S).map V.str := by unfold txs; rw [List.map_map]; rfl
  have room : (xs.map S).length < scanBound := by rw [List.length_map]; unfold scanBound; omega
  have fin : ∀ (h' : Heap) (tk : Nat), Elem X.prog X.w (xs.map S) (xs.map S).length s1.heap.objs.size h' → (∀ b o, s1.heap.get? b = some o → h'.get? b = some o) →
      wpAny (model X.prog X.w) X.A (spliced (backTo pos (starEach [] X.env))) (fun vs s₂ => wpAny (model X.prog X.w) X.A (call (.builtin "len") (Value.ref s1.heap.objs.size :: vs)) (EP X pins σ Q) X.xe s₂) X.xe { s1 with heap := h', toks := tk } := fun h' tk hS hk => by
    refine PyProof.Rows.args_nil ?_
    obtain ⟨o, es, ep, t, ho, hex, hd, _, _, _, hf, hn⟩ := hS
    have I2 : Inv X pins σ H1 { s1 with heap := h', toks := tk } := I1.kept hk
    rw [List.length_map] at hn
    exact call_len_set ho hex hd hf (by rw [hn]; omega) ⟨.int xs.length, H1, I2.tok _, ⟨_, by rw [hn]⟩, q1⟩
  rcases hq with hq | hq
  · rw [e0] at hq
    obtain ⟨its, r, pl, hz⟩ := I1.list hq
    exact set_of_list (I1.ok.hd hc) pl.isList (by simpa using strsAre_of r) (nodup_S hnd) room fun h' tk hS hk => fin h' tk hS hk
  · rw [e0] at hq
    obtain ⟨its, r, pl, hz⟩ := I1.tuple hq
    exact set_of_tuple (I1.ok.hd hc) pl (by simpa using strsAre_of r) (nodup_S hnd) room fun h' tk hS hk => fin h' tk hS hk
end
end LX
set_option maxHeartbeats 2000000
namespace LX
open PySem PySem.Spec PyProof.Rows L2 C8 SX
def SqB (K : PySem.W.Frag) (b : Bool) (H : Hp) (a : Addr) (xs : List V) : Prop := if b = true then SqL K H a xs else SqT K H a xs
def ItA (K : PySem.W.Frag) (b : Bool) (a : Addr) : It := if b = true then Itl K a else Itt K a
theorem SqB.or {K : PySem.W.Frag} {b : Bool} {H : Hp} {a : Addr} {xs : List V} (h : SqB K b H a xs) : SqL K H a xs ∨ SqT K H a xs := by
  cases b
  · exact .inr h
  · exact .inl h
theorem SqB.same {K : PySem.W.Frag} {b : Bool} {H H' : Hp} {a : Addr} {xs : List V} (h : SqB K b H a xs) (s : Same H H') : SqB K b H' a xs := by
  cases b
  · exact sm_seqT s h
  · exact s.seq h
theorem SqB.lst {K : PySem.W.Frag} {H : Hp} {a : Addr} {xs : List V} (h : H a = some (.lst xs)) : SqB K true H a xs := SqL.of h
theorem SqB.tup {K : PySem.W.Frag} {H : Hp} {a : Addr} {xs : List V} (h : H a = some (.tup xs)) : SqB K false H a xs := SqT.of h
def seqB (b : Bool) (xs : List V) : HO := if b = true then .lst xs else .tup xs
theorem SqB.of {K : PySem.W.Frag} {b : Bool} {H : Hp} {a : Addr} {xs : List V} (h : H a = some (seqB b xs)) : SqB K b H a xs := by
  cases b
  · exact SqB.tup h
  · exact SqB.lst h
theorem walk_seq {K : PySem.W.Frag} {b : Bool} {a : Addr} {xs : List V} : Walk (ItA K b a) xs.length (fun H => SqB K b H a xs) (YAt xs) := by
  cases b
  · exact walk_tup
  · exact walk_list
def iSeq (K : PySem.W.Frag) (tl : TE) : TI := fun σ H R => tl σ H fun x H1 => ∃ a b xs, x = .ref a ∧ SqB K b H1 a xs ∧ R (ItA K b a) H1
theorem pi_seq {X : Cx} {tg l : Expr} {tl : TE} (hl : PE X l tl) : PI X tg l (iSeq X.K tl) := by
  refine ⟨fun pins s σ H R I h => thn (hl.run pins s σ H _ I h) fun v s1 ⟨x, H1, I1, r1, a, b, xs, e, hq, q⟩ => ?_⟩
  subst e
  cases r1
  have new : ∀ c ∈ [s1.heap.objs.size], FpOk X pins H1 c := fun c hc => by
    rw [List.mem_singleton.mp hc]
    exact I1.fpOk (Nat.le_refl _) (I1.hok.fresh (Nat.le_refl _))
  cases b with
  | true =>
    obtain ⟨its, rv, p, hz⟩ := I1.list hq
    exact wpAny_pyIter_list p.isList ⟨s1.heap.objs.size, _, _, _, H1, rfl, I1.kept (t' := s1.toks) fun b o e => Heap.get?_push_of_some _ e, turn_list a _, ⟨_, Heap.get?_push_size _ rfl, rfl, rfl⟩, new, q⟩
  | false =>
    obtain ⟨its, rv, p, hz⟩ := I1.tuple hq
    exact wpAny_pyIter_tuple (show s1.heap.IsTuple a its.toArray from p) ⟨s1.heap.objs.size, _, _, _, H1, rfl, I1.kept (t' := s1.toks) fun b o e => Heap.get?_push_of_some _ e, turn_tuple a _, ⟨_, Heap.get?_push_size _ rfl, rfl, rfl⟩, new, q⟩
theorem pi_listK {X : Cx} {tg l : Expr} {tl : TE} (K : PySem.W.Frag) (hl : PE X l tl) (h : X.K = K := by rfl) : PI X tg l (iList K tl) := by subst h; exact pi_list hl
theorem pi_tupK {X : Cx} {tg l : Expr} {tl : TE} (K : PySem.W.Frag) (hl : PE X l tl) (h : X.K = K := by rfl) : PI X tg l (iTup K tl) := by subst h; exact pi_tup hl
theorem pi_seqK {X : Cx} {tg l : Expr} {tl : TE} (K : PySem.W.Frag) (hl : PE X l tl) (h : X.K = K := by rfl) : PI X tg l (iSeq K tl) := by subst h; exact pi_seq hl
def inS : Expr → Scope
  | .ListComp (.ListComp _ _ s _) _ _ _ => s
  | _ => { kind := .function, names := [], isGenerator := false, isCoroutine := false }
def outS : Expr → Scope
  | .ListComp _ _ s _ => s
  | _ => { kind := .function, names := [], isGenerator := false, isCoroutine := false }
def ofRet : Stmt → Expr
  | .Return (some e) _ => e
  | .Assign _ e _ => e
  | _ => .Constant .none 0 ⟨0, 0, 0, 0⟩
theorem tuple_of {K : PySem.W.Frag} {b : Bool} {H : Hp} {a : Addr} {xs : List V} {Q : VK} (h : SqB K b H a xs) (q1 : ∀ l, H l = none → Q (.ref l) (upd H l (.tup xs))) (q2 : b = false → Q (.ref a) H) :
    (SqL K H a xs ∧ ∀ l, H l = none → Q (.ref l) (upd H l (.tup xs))) ∨ (SqT K H a xs ∧ Q (.ref a) H) := by
  cases b
  · exact .inr ⟨h, q2 rfl⟩
  · exact .inl ⟨h, q1⟩
theorem tupA {K : PySem.W.Frag} {b : Bool} {H : Hp} {a : Addr} {xs : List V} {Q : VK} (h : H a = some (seqB b xs)) (k : ∀ l H', Same H H' → H' l = some (.tup xs) → (b = false → l = a) → (b = true → H l = none) → Q (.ref l) H') :
    (SqL K H a xs ∧ ∀ l, H l = none → Q (.ref l) (upd H l (.tup xs))) ∨ (SqT K H a xs ∧ Q (.ref a) H) := by
  cases b
  · exact .inr ⟨SqT.of h, k a H (Same.refl H) h (fun _ => rfl) (fun h => nomatch h)⟩
  · exact .inl ⟨SqL.of h, fun l hl => k l _ (sm_new hl) upd_same (fun h => nomatch h) (fun _ => hl)⟩
theorem tCB_tup {K : PySem.W.Frag} {b : Bool} {i : Nat} {σ : L2.St} {H : Hp} {a : Addr} {xs : List V} {Q : VK} (hv : σ[i]? = some (some (.ref a))) (h : H a = some (seqB b xs)) (k : ∀ l H', Same H H' → H' l = some (.tup xs) → (b = false → l = a) → (b = true → H l = none) → Q (.ref l) H') :
    tCB (fun xs H Q => ∃ p ys, xs = [.ref p] ∧ ((SqL K H p ys ∧ ∀ l, H l = none → Q (.ref l) (upd H l (.tup ys))) ∨ (SqT K H p ys ∧ Q (.ref p) H))) (tCons (tVar i) tNil) σ H Q :=
  ⟨_, hv, a, xs, rfl, tupA (Q := Q) h k⟩
theorem eqV_S {x y : List Nat} : eqV (.str (S x)) (.str (S y)) = decide (x = y) := by
  show (S x == S y) = _
  by_cases e : x = y
  · subst e; simp
  · have : S x ≠ S y := fun h => e (by have : (S x).cps.toList = (S y).cps.toList := congrArg (fun z : Str => z.cps.toList) h; simpa [S] using this)
    rw [decide_eq_false e]; simpa using this
theorem flat_txs (xs : List (List Nat)) : (txs xs).all flatV = true := by
  unfold txs; rw [List.all_map]; exact List.all_eq_true.mpr fun _ _ => rfl
theorem inV_txs {x : List Nat} {xs : List (List Nat)} : inV (.str (S x)) (txs xs) = decide (x ∈ xs) := by
  unfold inV txs
  induction xs with
  | nil => rfl
  | cons y ys ih =>
    rw [List.map_cons, List.any_cons, ih]
    show (eqV (.str (S y)) (.str (S x)) || _) = _
    rw [eqV_S]
    by_cases e : y = x <;> by_cases e2 : x ∈ ys <;> simp [e, e2]
    · intro h; exact absurd h.symm e
theorem dictZipK {X : Cx} (K : PySem.W.Frag) {e e2 : Expr} {ta : TA} {p p2 pos pos2 : Pos} (hc : X.calm = true) (hgd : Gl X "dict") (hmd : X.mg "dict" = none) (hg : Gl X "zip") (hm : X.mg "zip" = none) (ha : PA X [e, e2] ta) (h : X.K = K := by rfl)
    (hs : starEach [e, e2] X.env = (false, eval e X.env) :: starEach [e2] X.env := by rfl) (hpl : (backTo pos2 (starEach [e2] X.env)).any (·.1) = false := by rfl)
    (hs' : starEach [.Call (.Name "zip" p2) [e, e2] [] pos2] X.env = (false, eval (.Call (.Name "zip" p2) [e, e2] [] pos2) X.env) :: starEach [] X.env := by rfl) (hpl' : (backTo pos (starEach [] X.env)).any (·.1) = false := by rfl) :
    PE X (.Call (.Name "dict" p) [.Call (.Name "zip" p2) [e, e2] [] pos2] [] pos) (tDictZip K ta) := by subst h; exact pe_dictZip hc hgd hmd hg hm ha hs hpl hs' hpl'
end LX
set_option maxHeartbeats 2000000
namespace LX
open PySem PySem.Spec PyProof.Rows L2 C8 SX NdefX
noncomputable def upB (h base : Heap) (cs : List Addr) : Heap := hidT h fun b => if (base.get? b).isSome = true ∨ b ∈ cs then none else some (.lst [])
theorem upB_get {h base : Heap} {cs : List Addr} {b : Addr} {o : Obj} (e : h.get? b = some o) (n : (base.get? b).isSome = true ∨ b ∈ cs) : (upB h base cs).get? b = some o := hidT_get e (if_pos n)
theorem of_upB {h base : Heap} {cs : List Addr} {b : Addr} {o : Obj} (e : (upB h base cs).get? b = some o) : h.get? b = some o ∧ ((base.get? b).isSome = true ∨ b ∈ cs) := by
  obtain ⟨e1, e2⟩ := of_hidT e
  refine ⟨e1, ?_⟩
  by_cases n : (base.get? b).isSome = true ∨ b ∈ cs
  · exact n
  · have e2 : (if (base.get? b).isSome = true ∨ b ∈ cs then none else some (HO.lst [])) = none := e2
    rw [if_neg n] at e2; cases e2
structure BCells (cl : List (Str × Addr)) (fr : List Str) (ws : List (Option V)) (base : Heap) : Prop where
  len : ws.length = fr.length
  all : ∀ y c, cl.lookup y = some c → ∃ v, base.IsCell c v
  inj : ∀ x y c, cl.lookup x = some c → cl.lookup y = some c → x = y
  has : ∀ (i : Nat) (y : Str), fr[i]? = some y → ∃ c, cl.lookup y = some c ∧ ∀ v, ws[i]? = some (some v) → ∃ u, RelV v u ∧ base.IsCell c (some u)
theorem BCells.at_ {cl : List (Str × Addr)} {fr : List Str} {ws : List (Option V)} {base : Heap} (b : BCells cl fr ws base) {h : Heap} {H : Hp} (bs : ∀ b o, base.get? b = some o → h.get? b = some o ∧ H b = none) : CellsAt cl fr ws h H :=
  ⟨b.len, fun y c e => let ⟨v, o, e1, e2⟩ := b.all y c e; ⟨(bs _ _ e1).2, v, o, (bs _ _ e1).1, e2⟩, b.inj, fun i y e => let ⟨c, e1, f⟩ := b.has i y e; ⟨c, e1, fun v hv => let ⟨u, r, o, e2, e3⟩ := f v hv; ⟨u, r, o, (bs _ _ e2).1, e3⟩⟩⟩
section
variable {X : Cx} {pins : List (Addr × Obj)} {σ : L2.St} {H : Hp} {s : Shared}
theorem funs_up {h base : Heap} {cs : List Addr} : ∀ {l : List Env}, h.FunFrames base l → (∀ b ∈ frs l, b ∉ cs) → h.FunFrames (upB h base cs) l
  | [], _, _ => trivial
  | env :: rest, ⟨a, ⟨L, o, e1, e2, e3, e4⟩, r⟩, n => by
    have hm : L ∈ frs (env :: rest) := by unfold frs; rw [List.filterMap_cons, e1]; exact List.mem_cons_self
    refine ⟨a, ⟨L, o, e1, ?_, e3, e4⟩, funs_up r fun b hb => n b ?_⟩
    · cases q : (upB h base cs).get? L with
      | none => rfl
      | some o' =>
        rcases (of_upB q).2 with z | z
        · rw [e2] at z; cases z
        · exact absurd z (n L hm)
    · unfold frs at hb ⊢; rw [List.filterMap_cons, e1]; exact List.mem_cons_of_mem _ hb
theorem env_up (I : Inv X pins σ H s) {cs : List Addr} (hc : ∀ c ∈ cs, ∃ x, X.env.cells.lookup x = some c ∧ X.fn x = true) : Env0 X.prog X.w X.K X.mg (upB s.heap X.base cs) X.A X.stack s H := by
  have e0 := I.env0
  have k : ∀ b o, X.base.get? b = some o → (upB s.heap X.base cs).get? b = some o := fun b o e => upB_get (e0.bs b o e).1 (.inl (by rw [e]; rfl))
  obtain ⟨mb, b1, b2⟩ := e0.mod.blt
  refine ⟨e0.frames, ⟨fun b o e => k b o (e0.mod.kin b o e), e0.mod.glob.keeps k, ⟨mb, b1.keeps k, b2⟩, e0.mod.nolimit.keeps k⟩, fun b o e => ?_, Nat.le_of_eq (hidT_size _ _), funs_up e0.funs fun L hL hm => ?_, e0.frf, e0.hok, e0.bare⟩
  · obtain ⟨e1, n⟩ := of_upB e
    refine ⟨e1, ?_⟩
    rcases n with n | n
    · obtain ⟨o', q⟩ := Option.isSome_iff_exists.mp n
      exact (e0.bs b o' q).2
    · obtain ⟨x, hx, _⟩ := hc b n
      exact I.freeC x b hx
  · obtain ⟨x, hx, hf⟩ := hc L hm
    have above := I.ok.cab x L hf hx
    have out : ∀ l : List Env, X.s_0.heap.FunFrames X.base l → L ∈ frs l → False := fun l => by
      induction l with
      | nil => intro _ h; simp [frs] at h
      | cons env rest ih =>
        rintro ⟨_, ⟨M, o, e1, _, e3, _⟩, r⟩ h
        unfold frs at h; rw [List.filterMap_cons, e1] at h
        rcases List.mem_cons.mp h with z | z
        · have := Heap.lt_size e3
          rw [← z] at this
          exact Nat.lt_irrefl _ (Nat.lt_of_lt_of_le this above)
        · exact ih r z
    rcases I.ok.stk with e | ⟨e, ef⟩
    · rw [e] at hL; exact out _ I.ok.funs hL
    · rw [e] at hL
      unfold frs at hL; rw [List.filterMap_cons, ef] at hL
      rcases List.mem_cons.mp hL with z | z
      · obtain ⟨m, ⟨o, es, ep, e1, e2, _⟩, _⟩ := I.loc
        obtain ⟨v, o', q1, q2⟩ := I.cell x L hx
        rw [z, e1] at q1
        cases q1
        rw [e2] at q2; cases q2
      · exact out _ I.ok.funs z
theorem cells_up (I : Inv X pins σ H s) {cl : List (Str × Addr)} {fr : List Str} {js : List Nat} (c : Caps X cl fr js) : BCells cl fr (js.map (slotAt σ)) (upB s.heap X.base (cl.map (·.2))) := by
  have C := cells_of I c
  have mem : ∀ {y : Str} {a : Addr}, cl.lookup y = some a → a ∈ cl.map (·.2) := fun {y a} h => by
    obtain ⟨l1, l2, e, _⟩ := List.lookup_eq_some_iff.mp h
    rw [e]; simp
  refine ⟨C.len, fun y a e => ?_, C.inj, fun i y e => ?_⟩
  · obtain ⟨_, v, o, e1, e2⟩ := C.all y a e
    exact ⟨v, o, upB_get e1 (.inr (mem e)), e2⟩
  · obtain ⟨a, e1, f⟩ := C.has i y e
    exact ⟨a, e1, fun v hv => let ⟨u, r, o, e2, e3⟩ := f v hv; ⟨u, r, o, upB_get e2 (.inr (mem e1)), e3⟩⟩
def tUp (S : List (Option V) → Sp → Prop) (js : List Nat) (t : TA) : TE := fun σ H Q => t σ H fun vs H1 => ∃ sp, S (js.map (slotAt σ)) sp ∧ sp vs H1 Q C8.E0
theorem pe_cUp {k j : Nat} {g : Addr} {x : Str} {p pos : Pos} {e : Expr} {es : List Expr} {t : TA} {cl : List (Str × Addr)} {fr : List Str} {js : List Nat} {S : List (Option V) → Sp → Prop} (named : X.mg x = some (.ref g)) (kept : PySem.W.keepIn X.K (.ref g) = true)
    (cp : X.Ok → Caps X cl fr js) (hfn : ∀ y c, cl.lookup y = some c → X.fn y = true)
    (hS : ∀ ws sp (base' : Heap), S ws sp → X.K.In base' → base'.Ns mainGlobals X.mg → BCells cl fr ws base' → Cal X.prog X.w X.K X.mg base' k x sp []) (room : Room j X.A) (hk : k ≤ j) (hg : Gl X x) (ha : PA X (e :: es) t) (nd : cl.map (·.1) |>.Nodup) (hdb : (x == ("__debug__" : Str)) = false := by decide)
    (he : starEach (e :: es) X.env = (false, eval e X.env) :: starEach es X.env := by rfl) (hpl : (backTo pos (starEach es X.env)).any (·.1) = false := by rfl) : PE X (.Call (.Name x p) (e :: es) [] pos) (tUp S js t) := by
  constructor
  intro pins s σ H Q I want
  refine wpAny_Call_Name_kw (ld_glob I hg named ?_ hdb)
  refine PySem.W.callWith_K (h₀ := X.base) I.ok.mod.kin kept (thn (ha.run pos pins s σ H _ I want) ?_) he hpl
  rintro us s1 ⟨vs, H1, I1, rel, sp, s0, q⟩
  refine ⟨I1.kIn, ?_⟩
  have C := cp I1.ok
  have hcs : ∀ c ∈ cl.map (·.2), ∃ x, X.env.cells.lookup x = some c ∧ X.fn x = true := fun c hc => by
    obtain ⟨⟨y, c'⟩, hm, rfl⟩ := List.mem_map.mp hc
    have hl : cl.lookup y = some c' := by
      clear C hfn hS cp
      induction cl with
      | nil => cases hm
      | cons a r ih =>
        obtain ⟨z, d⟩ := a
        rw [List.map_cons, List.nodup_cons] at nd
        rcases List.mem_cons.mp hm with h | h
        · cases h; exact List.lookup_cons_self ..
        · have hne : (y == z) = false := by
            refine beq_eq_false_iff_ne.mpr fun e => nd.1 ?_
            rw [← e]; exact List.mem_map_of_mem (f := (·.1)) h
          rw [List.lookup_cons, hne]
          exact ih nd.2 h (List.mem_map_of_mem (f := (·.2)) h)
    exact ⟨y, C.sub y c' hl, hfn y c' hl⟩
  have E1 := env_up I1 hcs
  obtain ⟨f, fd, ps, ds, F, named', _, bd, dv⟩ := (hS _ sp _ s0 E1.mod.kin E1.mod.glob (cells_up I1 C)).ex
  rw [named] at named'
  cases named'
  cases dv
  have count : (us ++ []).length = ps.length := by rw [List.append_nil, ← rel.length]; exact F.len _ _ _ _ q
  have bs := bd s1 us I1.kIn count
  rw [List.append_nil] at bs
  refine wpAny_call (codeAny_mono (F.run X.A X.stack s1 H1 ⟨us, []⟩ us vs Q C8.E0 (room.mono hk) E1 bs rel q) fun r t' got => ?_)
  match r, got with
  | .ok (.ret u), got => exact I1.after got
end
def CV (P : Program) (w : World) (K : PySem.W.Frag) (mg : Str → Option Value) (base : Heap) (k : Nat) (g : Addr) (tr : Hp → Prop) (sp : Sp) : Prop :=
  Held P w K mg base k g sp ∨
    ∃ (F : NF) (ps fr : List Str) (ws : List (Option V)) (nsp : List (Option V) → Sp), NOk P w K mg base C8.CX0 k g F ps fr nsp ∧ (∀ vs H Q, tr H → sp vs H Q C8.E0 → nsp ws vs H Q C8.E0) ∧ BCells F.cl fr ws base ∧ ∀ H, tr H → H g = some (FnO g F) ∧ H F.c = some (LamX.CodeO F.c F.qual)
def tCallV (i : Nat) (g : Addr) (tr : Hp → Prop) (sp : Sp) (t : TA) : TE := fun σ H Q => σ[i]? = some (some (.ref g)) ∧ tr H ∧ t σ H fun vs H1 => tr H1 ∧ sp vs H1 Q C8.E0
theorem pe_callV {X : Cx} {k j i : Nat} {g : Addr} {tr : Hp → Prop} {sp : Sp} {x : Str} {p pos : Pos} {e : Expr} {es : List Expr} {t : TA} (c : CV X.prog X.w X.K X.mg X.base k g tr sp) (room : Room j X.A) (hk : k ≤ j) (hN : X.N[i]? = some x) (hv : Vis X.env.scope x) (ha : PA X (e :: es) t)
    (hd : (x == ("__debug__" : Str)) = false := by decide) (hcd : (x == ("__classdict__" : Str)) = false := by decide)
    (he : starEach (e :: es) X.env = (false, eval e X.env) :: starEach es X.env := by rfl) (hpl : (backTo pos (starEach es X.env)).any (·.1) = false := by rfl) : PE X (.Call (.Name x p) (e :: es) [] pos) (tCallV i g tr sp t) := by
  constructor
  rintro pins s σ H Q I ⟨hs, ht, want⟩
  rcases c with ⟨fd, ps, F, kept, bd⟩ | ⟨F, ps, fr, ws, nsp, N, hsp, B, htr⟩
  · have F' : FnOk X.prog X.w X.K X.mg X.base (fun _ _ _ _ _ _ => False) k g fd ps (fun vs H Q E => tr H ∧ sp vs H Q E) := F.imp fun _ _ _ _ q => q.2
    refine (pe_callL (i := i) (dvs := []) (E := fun _ _ _ => False) F' (room.mono hk) hN hv kept bd .nil (fun _ _ _ _ _ _ _ z => z.elim) ha hd hcd he hpl).run pins s σ H Q I ⟨hs, ?_⟩
    have e0 : (fun (vs : List V) (H1 : Hp) => tr H1 ∧ sp (vs ++ []) H1 Q fun _ _ _ => False) = fun vs H1 => tr H1 ∧ sp vs H1 Q C8.E0 := by funext vs H1; rw [List.append_nil]; rfl
    show t σ H fun vs H1 => tr H1 ∧ sp (vs ++ []) H1 Q fun _ _ _ => False
    rw [e0]; exact want
  · refine wpAny_Call_Name_kw (thn ((pe_var (pos := p) hN hv hd hcd).run pins s σ H (fun v H1 => v = .ref g ∧ H1 = H) I ⟨.ref g, hs, rfl, rfl⟩) fun u s1 ⟨v, H1, I1, r1, ev, eH⟩ => ?_)
    subst ev
    rw [eH] at I1
    obtain rfl : u = Value.ref g := r1
    refine PySem.W.callWith_F (first := []) (fnAt_of I1 (htr H ht).1) (thn (ha.run pos pins s1 σ H _ I1 want) fun us s2 ⟨vs, H2, I2, r, h1, q⟩ => ⟨fnAt_of I2 (htr H2 h1).1, ?_⟩) he hpl
    refine wpAny_call (codeAny_mono (N.run X.A X.stack s2 H2 us vs ws Q C8.E0 (room.mono hk) I2.env0 (htr H2 h1).1 (htr H2 h1).2 (B.at_ I2.env0.bs) r (hsp vs H2 Q h1 q)) fun r t' got => ?_)
    match r, got with
    | .ok (.ret u), got => exact I2.after got
theorem calC {P : Program} {w : World} {K : PySem.W.Frag} {mg : Str → Option Value} {base : Heap} {x : Str} {st : Stmt} {f : Addr} {fd : FuncData} {N ps : List Str} {ds : List Value} {dvs : List V} {k : Nat} {sp : Sp} {cdv : Value} (F : C8.Def K mg x st f fd) (hc : fd.code = cdv) (b : Binds K fd ps ds) (d : Vals dvs ds) (S : FnScope N ps (C8.fnScope st)) (len : ∀ vs H Q E, sp vs H Q E → vs.length = ps.length)
    (hbody : ∀ (A : Around) (outer : List Env) (s : Shared) (H : Hp) (vs : List V) (Q : VK) (E : XK), Room k (A.deeper (envOfC x (C8.fnScope st) s.heap.objs.size f cdv)) → sp vs H Q E →
      ∃ t, PSs (cxOf C8.CX0 P w K mg base N x (C8.fnScope st) f cdv A outer s H E).nox (C8.fnBody st) t ∧ t { nx := fun _ H' => Q .non H', rt := Q } (start N vs) H) : C8.Cal P w K mg base (k + 1) x sp dvs := by
  refine ⟨f, fd, ps, ds, ?_, F.mgf, F.kp, b, d⟩
  obtain ⟨oc, od, dV, kV, doc, pm, an, cdv', ct, osl, rfl, lk, hcd⟩ := F.fn.ex
  obtain rfl : cdv' = cdv := hc
  refine fn_of lk hcd S len fun A outer s H vs Q E hr hsp => ?_
  obtain ⟨t, h, q⟩ := hbody A outer s H vs Q E hr hsp
  exact ⟨t, h.nox, q⟩
end LX
set_option maxHeartbeats 2000000
namespace LX
open PySem PySem.Spec PyProof.Rows L2 C8 SX NdefX
def takenN (ok : Nat → Bool) (n : Nat) : List Nat := (List.range n).filter ok
theorem takenN_yes {ok : Nat → Bool} {n : Nat} (h : ok n = true) : takenN ok (n + 1) = takenN ok n ++ [n] := by
  unfold takenN; rw [List.range_succ, List.filter_append, List.filter_cons_of_pos h]; rfl
theorem takenN_no {ok : Nat → Bool} {n : Nat} (h : ok n = false) : takenN ok (n + 1) = takenN ok n := by
  unfold takenN; rw [List.range_succ, List.filter_append, List.filter_cons_of_neg (by rw [h]; exact Bool.false_ne_true)]; exact List.append_nil _
theorem takenN_le {ok : Nat → Bool} {n : Nat} : (takenN ok n).length ≤ n := by
  unfold takenN
  exact Nat.le_trans (List.length_filter_le _ _) (by rw [List.length_range]; exact Nat.le_refl _)
theorem lc_keepF {Rel : Hp → Hp → Prop} {J : It} {n : Nat} {G : Hp → Prop} {Y : Nat → Hp → V → Hp → Prop} {H1 : Hp} (kp : Keep Rel H1) (w : Walk J n G Y) {g : TG} {tt : TT} {te : TE} {vs : List Nat} {σ : L2.St} {D : Addr} {Qd : Hp → Prop} (hD : H1 D = none) (hn : n < sizeLine)
    (ok : Nat → Bool) (Good : Nat → V → Hp → Prop) (hG : ∀ H, Rel H1 H → G H)
    (st : ∀ i y H H', Rel H1 H → Rel H H' → Good i y H → Good i y H') (pt : ∀ i y H acc o, Rel H1 H → H D = some (.lst acc) → Good i y H → Good i y (upd H D o))
    (hs : ∀ i x H H' acc (N : Hp → Prop) (R : V → Hp → Prop), i < n → Rel H1 H → H D = some (.lst acc) → Y i H x H' → (ok i = true → ∀ y H4, Rel H H4 → Good i y H4 → R y H4) → (ok i = false → ∀ H4, Rel H H4 → N H4) →
      g x (wipe σ vs) H' fun σ2 H2 => wipe σ2 vs = wipe σ vs ∧ tt σ2 H2 fun b H3 => if b = true then te σ2 H3 R else N H3)
    (hd : ∀ ys H, ys.length = (takenN ok n).length → (∀ (j k : Nat) y, (takenN ok n)[j]? = some k → ys[j]? = some y → Good k y H) → Rel H1 H → H D = some (.lst ys) → Qd H) :
    ∃ W : Nat → Nat → Hp → Prop, (∃ m, W 0 m (upd H1 D (.lst []))) ∧ ∀ i m H, W i m H →
      (J.stop i H ∧ Qd H) ∨ (J.go i H ∧ ∃ Nx : Hp → Prop, (∀ H', Nx H' → ∃ m', m' < m ∧ W (i + 1) m' H') ∧ ∀ x H', J.yld i H x H' → g x (wipe σ vs) H' fun σ2 H2 => wipe σ2 vs = wipe σ vs ∧ tt σ2 H2 fun b H3 =>
        if b = true then te σ2 H3 fun y H4 => ∃ acc, H4 D = some (.lst acc) ∧ acc.length < sizeLine ∧ Nx (upd H4 D (.lst (acc ++ [y]))) else Nx H3) := by
  refine lc_it w (fun i H => ∃ acc, acc.length = (takenN ok i).length ∧ H D = some (.lst acc) ∧ Rel H1 H ∧ ∀ (j k : Nat) y, (takenN ok i)[j]? = some k → acc[j]? = some y → Good k y H) ⟨[], rfl, upd_same, kp.put _ _ _ kp.refl hD, fun j k y _ e => by simp at e⟩
    (fun i H _ ⟨_, _, _, r, _⟩ => hG H r) (fun i x H H' hi ⟨acc, hl, hDa, r, hg⟩ hy => ?_) (fun H ⟨acc, hl, hDa, r, hg⟩ => hd acc H hl hg r hDa)
  have hle := takenN_le (ok := ok) (n := i)
  refine hs i x H H' acc _ _ hi r hDa hy (fun ho y H4 r4 gy => ?_) (fun ho H4 r4 => ?_)
  · have hD4 := kp.get _ _ _ _ r4 hD r hDa
    have r5 := kp.trans _ _ r r4
    refine ⟨acc, hD4, by omega, acc ++ [y], by rw [takenN_yes ho]; simp [hl], upd_same, kp.put _ _ _ r5 hD, fun j k z ek e => ?_⟩
    rw [takenN_yes ho] at ek
    rcases Nat.lt_or_ge j acc.length with h | h
    · rw [List.getElem?_append_left h] at e
      rw [List.getElem?_append_left (by omega)] at ek
      exact pt _ _ _ _ _ r5 hD4 (st _ _ _ _ r r4 (hg j k z ek e))
    · rw [List.getElem?_append_right h] at e
      rw [List.getElem?_append_right (by omega)] at ek
      have hj : j - acc.length = 0 := by
        rcases Nat.lt_or_ge (j - acc.length) 1 with z | z
        · omega
        · rw [List.getElem?_eq_none (by simpa using z)] at e; cases e
      have hj2 : j - (takenN ok i).length = 0 := by omega
      rw [hj] at e; rw [hj2] at ek
      obtain rfl : y = z := Option.some.inj e
      obtain rfl : i = k := Option.some.inj ek
      exact pt _ _ _ _ _ r5 hD4 gy
  · have hD4 := kp.get _ _ _ _ r4 hD r hDa
    exact ⟨acc, by rw [takenN_no ho]; exact hl, hD4, kp.trans _ _ r r4, fun j k y ek e => by rw [takenN_no ho] at ek; exact st _ _ _ _ r r4 (hg j k y ek e)⟩
end LX
set_option maxHeartbeats 2000000
namespace LX
open PySem PySem.Spec PyProof.Rows L2 C8 SX
theorem S_contains (sg : List Nat) (c : Nat) : (S sg).cps.contains c = decide (c ∈ sg) := by
  rw [Bool.eq_iff_iff, decide_eq_true_eq, ← Array.contains_toList]
  simp [S]
theorem S_empty {l : List Nat} : S l = S [] ↔ l = [] := by
  constructor
  · intro h
    have : (S l).cps.toList = (S []).cps.toList := congrArg (fun z : Str => z.cps.toList) h
    simpa [S] using this
  · rintro rfl; rfl
theorem takeWhile_all {p : Nat → Bool} : ∀ {l : List Nat}, (∀ c ∈ l, p c = true) → l.takeWhile p = l
  | [], _ => rfl
  | c :: l, h => by rw [List.takeWhile_cons, if_pos (h c List.mem_cons_self), takeWhile_all fun d hd => h d (List.mem_cons_of_mem _ hd)]
theorem takeWhile_short {p : Nat → Bool} : ∀ {l : List Nat}, ¬ (∀ c ∈ l, p c = true) → (l.takeWhile p).length < l.length ∧ ∃ d r, l.drop (l.takeWhile p).length = d :: r ∧ p d = false
  | [], h => absurd (fun _ h => nomatch h) h
  | c :: l, h => by
    by_cases hc : p c = true
    · have h' : ¬ ∀ c ∈ l, p c = true := fun q => h fun d hd => by
        rcases List.mem_cons.mp hd with rfl | z
        · exact hc
        · exact q d z
      obtain ⟨i1, d, r, i2, i3⟩ := takeWhile_short h'
      rw [List.takeWhile_cons, if_pos hc]
      exact ⟨Nat.succ_lt_succ i1, d, r, i2, i3⟩
    · rw [List.takeWhile_cons, if_neg hc]
      exact ⟨Nat.succ_pos _, c, l, rfl, by simpa using hc⟩
theorem strip_nil {l sg : List Nat} : Txt.stripChars (S l) (S sg) = S [] ↔ ∀ c ∈ l, c ∈ sg := by
  unfold Txt.stripChars Txt.stripBy stripSame stripped stripLo stripHi
  have eg : (S sg).cps.contains = fun c => decide (c ∈ sg) := funext fun c => S_contains sg c
  have el : (S l).cps.toList = l := rfl
  have en : (S l).length = l.length := S_len l
  rw [eg, if_pos rfl, if_pos rfl, el, en]
  generalize hp : (fun c => decide (c ∈ sg)) = p
  have hpc : ∀ c, p c = true ↔ c ∈ sg := fun c => by rw [← hp]; exact decide_eq_true_iff
  by_cases h : ∀ c ∈ l, p c = true
  · refine ⟨fun _ c hc => (hpc c).mp (h c hc), fun _ => ?_⟩
    rw [takeWhile_all h, List.drop_length, List.reverse_nil, List.takeWhile_nil, List.length_nil, Nat.sub_zero]
    by_cases e : l = []
    · subst e; rfl
    · have : l.length ≠ 0 := fun z => e (List.length_eq_zero_iff.mp z)
      rw [if_neg (by simpa using this)]
      show (⟨(S l).cps.extract l.length l.length⟩ : Str) = S []
      simp [S]
  · obtain ⟨i1, d, r, i2, i3⟩ := takeWhile_short h
    refine ⟨fun e => absurd e ?_, fun q => absurd (fun c hc => (hpc c).mpr (q c hc)) h⟩
    rw [i2]
    have hr : ¬ ∀ c ∈ (d :: r).reverse, p c = true := fun q => by have := q d (by simp); rw [i3] at this; cases this
    have j1 := (takeWhile_short hr).1
    have hlen : (d :: r).length = l.length - (l.takeWhile p).length := by rw [← i2, List.length_drop]
    rw [List.length_reverse] at j1
    by_cases same : ((l.takeWhile p).length == 0 && l.length - ((d :: r).reverse.takeWhile p).length == l.length) = true
    · rw [if_pos same]
      intro e
      have := S_empty.mp e
      subst this
      exact absurd i1 (by simp)
    · rw [if_neg same]
      intro e
      have e2 : ((S l).cps.extract (l.takeWhile p).length (l.length - ((d :: r).reverse.takeWhile p).length)).size = 0 := by
        have : (Builtin.Str.strSub (S l) (l.takeWhile p).length (l.length - ((d :: r).reverse.takeWhile p).length)).cps = (S []).cps := by rw [e]
        rw [show (S l).cps.extract (l.takeWhile p).length (l.length - ((d :: r).reverse.takeWhile p).length) = (S []).cps from this]; rfl
      rw [Array.size_extract] at e2
      have e3 : (S l).cps.size = l.length := by simp [S]
      rw [e3] at e2
      omega
theorem strip_eq {l sg : List Nat} : decide (Txt.stripChars (S l) (S sg) = S []) = decide (∀ c ∈ l, c ∈ sg) := decide_eq_decide.mpr strip_nil
def az : List Nat := (List.range 26).map (· + 97)
theorem az_mem {c : Nat} : c ∈ az ↔ 97 ≤ c ∧ c ≤ 122 := by
  unfold az
  rw [List.mem_map]
  constructor
  · rintro ⟨i, hi, rfl⟩
    have := List.mem_range.mp hi
    omega
  · rintro ⟨h1, h2⟩
    exact ⟨c - 97, List.mem_range.mpr (by omega), by omega⟩
theorem s_az : (Str.ofString "abcdefghijklmnopqrstuvwxyz") = S az := by decide +kernel
end LX
set_option maxHeartbeats 2000000
namespace LX
open PySem PySem.Spec PyProof.Rows L2 C8 SX
def outD : Expr → Scope
  | .DictComp _ _ _ s _ => s
  | _ => { kind := .function, names := [], isGenerator := false, isCoroutine := false }
end LX
set_option maxHeartbeats 2000000
namespace LX
open PySem PySem.Spec PyProof.Rows L2 C8 SX
structure Fit (k n : Nat) (d : PyData) : Prop where
  lay : d.canLay0 = true
  int : d.intsShort 13 = true
  sho : d.showable = true
  dep : d.depth ≤ k
  wei : d.weight ≤ n
theorem Fit.mono {k n k' n' : Nat} {d : PyData} (f : Fit k n d) (hk : k ≤ k') (hn : n ≤ n') : Fit k' n' d := ⟨f.lay, f.int, f.sho, Nat.le_trans f.dep hk, Nat.le_trans f.wei hn⟩
theorem Fit.text {k n : Nat} {l : List Nat} (h : ∀ c ∈ l, c < 1114112) (hn : l.length ≤ n) : Fit k n (.str (S l)) := by
  refine ⟨?_, rfl, rfl, Nat.zero_le _, by simpa [PyData.weight, S] using hn⟩
  show (S l).cps.all (· < 0x110000) = true
  rw [← Array.all_toList, List.all_eq_true]
  exact fun c hc => decide_eq_true (h c hc)
theorem Fit.non {k n : Nat} : Fit k n .none := ⟨rfl, rfl, rfl, Nat.zero_le _, Nat.zero_le _⟩
theorem Fit.bl {k n : Nat} {b : Bool} : Fit k n (.bool b) := ⟨rfl, rfl, rfl, Nat.zero_le _, Nat.zero_le _⟩
theorem Fit.all {k n : Nat} : ∀ {ds : List PyData}, (∀ d ∈ ds, Fit k n d) → PyData.canLayAll0 ds = true ∧ PyData.intsShortAll 13 ds = true ∧ PyData.showableAll ds = true ∧ PyData.depthAll ds ≤ k + 1 ∧ PyData.weightAll ds ≤ ds.length * (n + 1)
  | [], _ => ⟨rfl, rfl, rfl, Nat.zero_le _, Nat.zero_le _⟩
  | d :: ds, h => by
    obtain ⟨h1, h2, h3, h4, h5⟩ := Fit.all (ds := ds) fun x hx => h x (List.mem_cons_of_mem _ hx)
    have f := h d List.mem_cons_self
    refine ⟨?_, ?_, ?_, ?_, ?_⟩
    · show (d.canLay0 && PyData.canLayAll0 ds) = true; rw [f.lay, h1]; rfl
    · show (d.intsShort 13 && PyData.intsShortAll 13 ds) = true; rw [f.int, h2]; rfl
    · show (d.showable && PyData.showableAll ds) = true; rw [f.sho, h3]; rfl
    · have e : PyData.depthAll (d :: ds) = max d.depth (PyData.depthAll ds) ∨ PyData.depthAll (d :: ds) ≤ max (d.depth + 1) (PyData.depthAll ds) := by
        first | exact .inl rfl | exact .inr (by unfold PyData.depthAll; omega)
      have := f.dep
      rcases e with e | e
      · rw [e]; omega
      · omega
    · show d.weight + 1 + PyData.weightAll ds ≤ _
      have := f.wei
      rw [List.length_cons, Nat.add_mul]
      omega
theorem Fit.tup {k n m : Nat} {ds : List PyData} (h : ∀ d ∈ ds, Fit k n d) (hm : ds.length ≤ m) : Fit (k + 2) (m * (n + 1)) (.tuple ds) := by
  obtain ⟨h1, h2, h3, h4, h5⟩ := Fit.all h
  refine ⟨h1, h2, h3, ?_, Nat.le_trans h5 (Nat.mul_le_mul_right _ hm)⟩
  show PyData.depthAll ds + 1 ≤ _
  omega
theorem Fit.lst {k n m : Nat} {ds : List PyData} (h : ∀ d ∈ ds, Fit k n d) (hm : ds.length ≤ m) : Fit (k + 2) (m * (n + 1)) (.list ds) := by
  obtain ⟨h1, h2, h3, h4, h5⟩ := Fit.all h
  refine ⟨h1, h2, h3, ?_, Nat.le_trans h5 (Nat.mul_le_mul_right _ hm)⟩
  show PyData.depthAll ds + 1 ≤ _
  omega
theorem Fit.size {k n : Nat} {d : PyData} (f : Fit k n d) (hn : n ≤ 1000000) : d.shown.length ≤ sizeLine := by
  have h := PyData.shown_le 13 (by decide) d (PyData.leavesShort_of_canLay0 13 d f.lay f.int)
  have := f.wei
  have e : sizeLine = 16777216 := rfl
  omega
theorem Fit.shaped {k n : Nat} {d : PyData} (f : Fit k n d) (hk : k ≤ 60) (h : (∃ ds, d = .tuple ds) ∨ ∃ ds, d = .list ds) : SeqAt.shaped d = true := by
  rcases h with ⟨ds, rfl⟩ | ⟨ds, rfl⟩
  · show (PyData.canLayAll0 ds && decide (PyData.depthAll ds + 1 ≤ 64)) = true
    have h1 : PyData.canLayAll0 ds = true := f.lay
    have h2 : PyData.depthAll ds + 1 ≤ k := f.dep
    rw [h1, Bool.true_and, decide_eq_true_eq]; omega
  · show (PyData.canLayAll0 ds && decide (PyData.depthAll ds + 1 ≤ 64)) = true
    have h1 : PyData.canLayAll0 ds = true := f.lay
    have h2 : PyData.depthAll ds + 1 ≤ k := f.dep
    rw [h1, Bool.true_and, decide_eq_true_eq]; omega
section
variable {X : Cx} {j : Nat}
theorem call_reprF (gd : X.A.guards = some []) (room : Room j X.A) (K : PySem.W.Frag) (hK : X.K = K := by rfl) : CallR X (.builtin "repr") (fun xs H Q => ∃ (a : Addr) (d : PyData) (k n : Nat), xs = [.ref a] ∧ Dp K H (.ref a) d ∧ Fit k n d ∧ k ≤ 60 ∧ n ≤ 1000000 ∧ Q (.str d.shown) H) := by
  subst hK
  intro pins s σ H xs us Q I rel want
  obtain ⟨a, d, k, n, rfl, hd, f, hk, hn, q⟩ := want
  exact call_reprG gd room pins s σ H _ us Q I rel ⟨a, d, rfl, hd, f.sho, PyData.hasDict_of_canLay d f.lay, Nat.le_trans f.dep hk, f.size hn, q⟩
end
mutual
theorem Dp.same {K : PySem.W.Frag} {H H' : Hp} (s : Same H H') : ∀ {d : PyData} {v : V}, Dp K H v d → Dp K H' v d
  | .none, _, h => by cases h; exact .non
  | .bool _, _, h => by cases h; exact .bl _
  | .int _, _, h => by cases h; exact .int _
  | .str _, _, h => by cases h; exact .str _
  | .list _, _, h => by cases h with | lst q r => exact .lst (s.seq q) (DpAll.same s r)
  | .tuple _, _, h => by cases h with | tup q r => exact .tup (sm_seqT s q) (DpAll.same s r)
  | .dict _, _, h => by cases h
theorem DpAll.same {K : PySem.W.Frag} {H H' : Hp} (s : Same H H') : ∀ {ds : List PyData} {vs : List V}, DpAll K H vs ds → DpAll K H' vs ds
  | [], _, h => by cases h; exact .nil
  | _ :: _, _, h => by cases h with | cons q r => exact .cons (Dp.same s q) (DpAll.same s r)
end
theorem dpAll_get {K : PySem.W.Frag} {H : Hp} {α : Type} {f : α → V} {g : α → PyData} : ∀ {xs : List α}, (∀ x ∈ xs, Dp K H (f x) (g x)) → DpAll K H (xs.map f) (xs.map g)
  | [], _ => .nil
  | x :: xs, h => .cons (h x List.mem_cons_self) (dpAll_get fun y hy => h y (List.mem_cons_of_mem _ hy))
end LX
set_option maxHeartbeats 2000000
namespace LX
open PySem PySem.Spec PyProof.Rows L2 C8 SX
section
variable {X : Cx}
theorem pe_joinK (K : PySem.W.Frag) {o e : Expr} {to te : TE} {apos pos : Pos} (ho : PE X o to) (he : PE X e te) (hK : X.K = K := by rfl) (hs : starEach [e] X.env = [(false, eval e X.env)] := by rfl) (hbase : attributeBase o "join" X.env (eval o X.env) = eval o X.env := by rfl) (hline : (apos.endLine == pos.line) = true := by rfl) :
    PE X (.Call (.Attribute o "join" apos) [e] [] pos) (tM1 (fun x xs H Q => ∃ a p, ∃ ys : List Str, x = .str a ∧ xs = [.ref p] ∧ (SqL K H p (ys.map V.str) ∨ SqT K H p (ys.map V.str)) ∧
      (ys.map (·.length)).sum + ys.length * a.length ≤ 16777216 ∧ Q (.str (Txt.join a ys)) H) to te) := by subst hK; exact pe_join ho he hs hbase hline
end
def tJd (ts : List TE) : TE := fun σ H Q => tJs ts Str.empty σ H fun out H1 => Q (.str out) H1
theorem pe_joinedD {X : Cx} {v1 v2 : Expr} {rest : List Expr} {ts : List TE} {pos : Pos} (h : PJ X (v1 :: v2 :: rest) ts) : PE X (.JoinedStr (v1 :: v2 :: rest) pos) (tJd ts) := pe_joined h
theorem joinL_len {sep : List Nat} {m : Nat} : ∀ {ys : List (List Nat)}, (∀ y ∈ ys, y.length ≤ m) → (TL.joinL sep ys).length ≤ ys.length * (m + sep.length)
  | [], _ => by simp [TL.joinL]
  | [y], h => by
    have := h y List.mem_cons_self
    simp [TL.joinL]
    omega
  | y :: z :: ys, h => by
    have ih := joinL_len (sep := sep) (ys := z :: ys) fun x hx => h x (List.mem_cons_of_mem _ hx)
    have h1 := h y List.mem_cons_self
    have e : TL.joinL sep (y :: z :: ys) = y ++ sep ++ TL.joinL sep (z :: ys) := by simp [TL.joinL]
    rw [e, List.length_append, List.length_append, List.length_cons, Nat.add_mul]
    omega
theorem sum_lens {m : Nat} : ∀ {ys : List (List Nat)}, (∀ l ∈ ys, l.length ≤ m) → ((ys.map S).map (·.length)).sum ≤ ys.length * m
  | [], _ => by simp
  | y :: ys, h => by
    have ih := sum_lens (m := m) (ys := ys) fun l hl => h l (List.mem_cons_of_mem _ hl)
    have h0 := h y List.mem_cons_self
    simp only [List.map_cons, List.sum_cons, List.length_cons]
    rw [S_len, Nat.add_mul]
    omega
theorem joinS_ok {m n : Nat} {sep : List Nat} {ys : List (List Nat)} (h : ∀ l ∈ ys, l.length ≤ m) (hn : ys.length ≤ n) (hm : n * (m + sep.length) ≤ 16000000) : ((ys.map S).map (·.length)).sum + (ys.map S).length * (S sep).length ≤ 16777216 := by
  rw [S_len, List.length_map]
  have := sum_lens h
  have h2 : ys.length * (m + sep.length) ≤ n * (m + sep.length) := Nat.mul_le_mul_right _ hn
  rw [Nat.mul_add] at h2
  omega
end LX
set_option maxHeartbeats 2000000
namespace LX
open PySem PySem.Spec PyProof.Rows L2 C8 SX
section
variable {X : Cx} {k j : Nat} {C : Addr} {sp : Sp}
theorem met_runV {mth : Str} {pins : List (Addr × Obj)} {σ : L2.St} {H : Hp} {s : Shared} {A : Around} {a : Addr} {y : V} {u : Value} {Q : Value → Shared → Prop} (c : Met X.prog X.w X.K X.mg X.base k C mth sp []) (hr : Room k A) (hfr : A.frames = X.A.frames) (I : Inv X pins σ H s) (ry : RelV y u)
    {R : VK} (hsp : sp [.ref a, y] H R C8.E0) (hQ : ∀ v z H' s', Inv X pins σ H' s' → RelV z v → R z H' → Q v s') :
    ∃ f, PySem.W.findIn X.K (.ref C) mth = some (some (.ref f)) ∧ PySem.W.isFn X.K (.ref f) = true ∧ wpAny (model X.prog X.w) A (call (.ref f) [.ref a, u]) Q X.xe s := by
  obtain ⟨f, fd, ps, ds, hc, hm, F, hb, hd⟩ := c.ex
  refine ⟨f, hm.at_, hm.fn, ?_⟩
  have e0 : Env0 X.prog X.w X.K X.mg X.base A X.stack s H := by
    have e := I.env0
    exact ⟨by rw [hfr]; exact e.frames, e.mod, e.bs, e.bsz, e.funs, e.frf, e.hok, e.bare⟩
  have hds : ds = [] := by cases hd; rfl
  subst hds
  have hl := F.len _ _ _ _ hsp
  have r2 : Vals [V.ref a, y] [Value.ref a, u] := .cons rfl (.cons ry .nil)
  refine wpAny_call (codeAny_mono (F.run A X.stack s H ⟨[.ref a, u], []⟩ [.ref a, u] [.ref a, y] _ C8.E0 hr e0 (by
    have := hb s [.ref a, u] I.kIn (by simpa using hl)
    simpa using this) r2 hsp) fun r s' hq => ?_)
  cases r with
  | error e => exact C8.pass0 (E := C8.E0) pins σ H s e s' I hq
  | ok fl =>
    cases fl with
    | ret w =>
      obtain ⟨z, H', I', rz, q⟩ := I.after hq
      exact hQ w z H' s' I' rz q
    | next => exact False.elim hq
    | brk => exact False.elim hq
    | cont => exact False.elim hq
def rEqIV (K : PySem.W.Frag) (C : Addr) (sp : Sp) : R2 := fun x y H Q => ∃ a dx fs t, x = .ref a ∧ H a = some (.ins C dx fs) ∧ TyX K H y t ∧ PySem.W.notFirst K C t = true ∧ sp [.ref a, y] H (fun v H' => ∃ r, v = .bl r ∧ Q (.bl r) H') C8.E0
theorem op_eqIV (c : Met X.prog X.w X.K X.mg X.base k C "__eq__" sp []) (hr : Room j X.A) (hk : k ≤ j) : OpR X (compareOp .Eq) (rEqIV X.K C sp) := by
  intro pins s σ H x y v u Q I rx ry h
  obtain ⟨a, dx, fs, t, rfl, ha, hty, hnf, hsp⟩ := h
  cases rx
  obtain ⟨mA, J, _⟩ := ins_get I.hok ha
  obtain ⟨od, J, _⟩ := J.look
  obtain ⟨m, hF⟩ := I.fr
  obtain ⟨P, kx, hP, _⟩ := kit_of I ry hty
  obtain ⟨f, hs, hf, hw⟩ := met_runV (Q := PySem.W.CmpBack (EP X pins σ Q)) c (hr.mono hk) rfl I ry hsp (fun v z H' s' I' rz q => by
    obtain ⟨r, rfl, q⟩ := q
    cases rz
    exact ⟨.bl r, H', I', rfl, q⟩)
  exact PySem.W.cmp_K (op := .Eq) (tb := t) hr.units0 hF I.ok.mod.kin J (kx.ty _ _ I.kIn hP) hnf hs hf hw
theorem op_eqDK (K : PySem.W.Frag) (hr : Room j X.A) (h : X.K = K := by rfl) : OpR X (compareOp .Eq) (rEqD K) := by subst h; exact op_eqD hr.units
theorem op_neDK (K : PySem.W.Frag) (hr : Room j X.A) (h : X.K = K := by rfl) : OpR X (compareOp .NotEq) (rNeD K) := by subst h; exact op_neD hr.units
end
def tD (xs : List (List Nat)) : PyData := .tuple (xs.map fun l => .str (S l))
def ttD (xss : List (List (List Nat))) : PyData := .tuple (xss.map tD)
theorem dp_t {K : PySem.W.Frag} {H : Hp} {a : Addr} {xs : List (List Nat)} (h : SqT K H a (txs xs)) : Dp K H (.ref a) (tD xs) := .tup h (dp_strs xs)
theorem eqv_t (xs ys : List (List Nat)) : PyData.eqv (tD xs) (tD ys) = decide (xs = ys) := eqv_strs xs ys
theorem eqv_tts : ∀ xss yss : List (List (List Nat)), PyData.eqvAll (xss.map tD) (yss.map tD) = decide (xss = yss)
  | [], [] => rfl
  | [], _ :: _ => rfl
  | _ :: _, [] => rfl
  | x :: xs, y :: ys => by
    show (PyData.eqv (tD x) (tD y) && PyData.eqvAll (xs.map tD) (ys.map tD)) = _
    rw [eqv_t, eqv_tts xs ys, ← Bool.decide_and]
    exact decide_eq_decide.mpr (by rw [List.cons.injEq])
theorem eqv_tt (xss yss : List (List (List Nat))) : PyData.eqv (ttD xss) (ttD yss) = decide (xss = yss) := eqv_tts xss yss
theorem fit_t {m n : Nat} {xs : List (List Nat)} (hs : Small xs) (hl : ∀ l ∈ xs, l.length ≤ n) (hm : xs.length ≤ m) : Fit 2 (m * (n + 1)) (tD xs) :=
  Fit.tup (k := 0) (n := n) (fun d hd => by obtain ⟨l, hl', rfl⟩ := List.mem_map.mp hd; exact Fit.text (hs l hl') (hl l hl')) (by rw [List.length_map]; exact hm)
theorem fit_tt {m n p : Nat} {xss : List (List (List Nat))} (h : ∀ xs ∈ xss, Small xs ∧ (∀ l ∈ xs, l.length ≤ n) ∧ xs.length ≤ m) (hp : xss.length ≤ p) : Fit 4 (p * (m * (n + 1) + 1)) (ttD xss) :=
  Fit.tup (k := 2) (fun d hd => by obtain ⟨xs, hx, rfl⟩ := List.mem_map.mp hd; obtain ⟨h1, h2, h3⟩ := h xs hx; exact fit_t h1 h2 h3) (by rw [List.length_map]; exact hp)
end LX
set_option maxHeartbeats 1000000
namespace LX
open PySem PySem.Spec PyProof.Rows L2 C8 SX
section
variable {X : Cx} {K : PySem.W.Frag} {H : Hp}
def inz (xs : List Int) : List V := xs.map V.int
theorem inz_len (xs : List Int) : (inz xs).length = xs.length := List.length_map ..
theorem dp_inz : ∀ xs : List Int, DpAll K H (inz xs) (xs.map PyData.int)
  | [] => .nil
  | x :: xs => .cons (.int _) (dp_inz xs)
theorem lay_inz : ∀ xs : List Int, PyData.canLayAll0 (xs.map PyData.int) = true ∧ PyData.depthAll (xs.map PyData.int) ≤ 1
  | [] => ⟨rfl, Nat.zero_le _⟩
  | x :: xs => by
    obtain ⟨h1, h2⟩ := lay_inz xs
    refine ⟨?_, ?_⟩
    · show (PyData.canLay0 (.int x) && PyData.canLayAll0 (xs.map PyData.int)) = true
      rw [h1, Bool.and_true]; rfl
    · show max (PyData.depth (.int x)) (PyData.depthAll (xs.map PyData.int)) ≤ 1
      have e : PyData.depth (.int x) ≤ 1 := Nat.zero_le _
      omega
theorem shaped_inz (xs : List Int) : SeqAt.shaped (.list (xs.map PyData.int)) = true := by
  obtain ⟨h1, h2⟩ := lay_inz xs
  show (PyData.canLayAll0 _ && decide (PyData.depthAll _ + 1 ≤ 64)) = true
  rw [h1, Bool.true_and, decide_eq_true_eq]; omega
def rNeE : R2 := fun x y H Q => ∃ (a b : Addr) (xs : List Int), x = .ref a ∧ y = .ref b ∧ H a = some (.lst (inz xs)) ∧ H b = some (.lst []) ∧ Q (.bl (!xs.isEmpty)) H
theorem op_neE {k : Nat} (hr : Room k X.A) : OpR X (compareOp .NotEq) rNeE := by
  intro pins s σ H x y v u Q I rx ry h
  obtain ⟨a, b, xs, rfl, rfl, ha, hb, q⟩ := h
  refine op_neD hr.units pins s σ H _ _ v u Q I rx ry ⟨_, _, .lst (SqL.of ha) (dp_inz xs), .lst (SqL.of hb) .nil, shaped_inz xs, shaped_inz [], ?_⟩
  cases xs with
  | nil => exact q
  | cons x xs => exact q
theorem at_last {xs : List V} {v : V} (h : 0 < xs.length) (e : xs[xs.length - 1]? = some v) : atI xs (-1) = some v := by
  have : ixN xs.length (-1) = some (xs.length - 1) := by
    unfold ixN
    rw [if_neg (by decide), if_pos (by omega)]
    congr 1; omega
  unfold atI
  rw [this]; exact e
def SeqV (K : PySem.W.Frag) (H : Hp) (x : V) (ys : List V) : Prop :=
  (∃ p, x = .ref p ∧ (SqL K H p ys ∨ SqT K H p ys)) ∨ ∃ l : List Nat, x = .str (S l) ∧ l.length ≤ sizeLine ∧ ys = l.map fun c => V.str (S [c])
def rLenA (K : PySem.W.Frag) : List V → Hp → VK → Prop := fun xs H Q => ∃ x ys, xs = [x] ∧ SeqV K H x ys ∧ Q (.int ys.length) H
theorem lenA (K : PySem.W.Frag) (h : X.K = K := by rfl) : CallR X (.builtin "len") (rLenA K) := by
  subst h
  intro pins s σ H xs us Q I r q
  obtain ⟨x, ys, rfl, hh, q⟩ := q
  rcases hh with ⟨p, rfl, hp⟩ | ⟨l, rfl, hl, rfl⟩
  · exact lenK X.K rfl pins s σ H _ us Q I r ⟨p, ys, rfl, hp, q⟩
  · refine call_len_str pins s σ H _ us Q I r ⟨S l, rfl, by rw [S_len]; exact hl, ?_⟩
    rw [S_len]
    rw [List.length_map] at q
    exact q
def rIxA (K : PySem.W.Frag) : R2 := fun x y H Q => ∃ ys i v, y = .int i ∧ SeqV K H x ys ∧ atI ys i = some v ∧ Q v H
theorem ixA (K : PySem.W.Frag) (h : X.K = K := by rfl) : IxR X (rIxA K) := by
  subst h
  intro value slice pins s σ H x y v u Q I rx ry q hs
  obtain ⟨ys, i, w, rfl, hh, ha, q⟩ := q
  refine ix_seq value slice pins s σ H x (.int i) v u Q I rx ry ?_ hs
  rcases hh with ⟨p, rfl, hp | hp⟩ | ⟨l, rfl, hl, rfl⟩
  · exact .inl ⟨p, ys, i, w, rfl, rfl, hp, ha, q⟩
  · exact .inr (.inl ⟨p, ys, i, w, rfl, rfl, hp, ha, q⟩)
  · have e : ∀ j, (l.map fun c => V.str (S [c]))[j]? = (l[j]?).map fun c => V.str (S [c]) := fun j => List.getElem?_map ..
    have e2 : atI l i = none ∧ w = w ∨ ∃ c, atI l i = some c ∧ w = .str (S [c]) := by
      unfold atI at ha ⊢
      rw [List.length_map] at ha
      cases hx : ixN l.length i with
      | none => rw [hx] at ha; cases ha
      | some j =>
        rw [hx] at ha
        have ha : (l.map fun c => V.str (S [c]))[j]? = some w := ha
        rw [e] at ha
        cases hc : l[j]? with
        | none => rw [hc] at ha; cases ha
        | some c => rw [hc] at ha; exact .inr ⟨c, hc, (Option.some.inj ha).symm⟩
    rcases e2 with ⟨e3, _⟩ | ⟨c, e3, rfl⟩
    · exfalso
      unfold atI at ha e3
      rw [List.length_map] at ha
      cases hx : ixN l.length i with
      | none => rw [hx] at ha; cases ha
      | some j =>
        rw [hx] at ha e3
        have ha : (l.map fun c => V.str (S [c]))[j]? = some w := ha
        have e3 : l[j]? = none := e3
        rw [e, e3] at ha; cases ha
    · exact .inr (.inr ⟨S l, i, c, rfl, rfl, by rw [S_len]; exact hl, e3, q⟩)
theorem le1000 {n : Nat} (h : n ≤ 1000) : n ≤ sizeLine := Nat.le_trans h (by decide)
theorem inz_get {cs : List Int} {i : Nat} {x : V} (h : (inz cs)[i]? = some x) : ∃ z, cs[i]? = some z ∧ x = .int z := by
  unfold inz at h
  rw [List.getElem?_map] at h
  cases q : cs[i]? with
  | none => rw [q] at h; cases h
  | some l => rw [q] at h; exact ⟨l, rfl, (Option.some.inj h).symm⟩
theorem inz_of : ∀ {ys : List V}, (∀ (j : Nat) y, ys[j]? = some y → ∃ z : Int, y = .int z) → ∃ cs : List Int, ys = inz cs
  | [], _ => ⟨[], rfl⟩
  | y :: ys, h => by
    obtain ⟨z, rfl⟩ := h 0 y rfl
    obtain ⟨cs, rfl⟩ := inz_of (ys := ys) fun j z q => h (j + 1) z q
    exact ⟨z :: cs, rfl⟩
theorem nxt {D : Ends} {σ : L2.St} {H : Hp} (h : D.nx σ H) : tNext D σ H := h
end
end LX
set_option maxHeartbeats 4000000
namespace EV
open PySem PySem.HandSPX
open Builtin Builtin.ObjectAttr
section
variable {M : Model} {A : Around} {E : Value → Shared → Prop} {h : Heap} {g : Array GenState} {d : Drawn} {t : Nat} {os : OsState}
variable {nm q : Str} {C N : Addr} {bs bm bmB : List Value} {hdct : Bool} {sn : List Str} {sub : List Value} {ab : Bool} {col : Option Bool} {dd : Option Addr} {k0 k1 k2 k3 k5 : Option Value} {B newId initId : String}
theorem check_new_kw (F : ExcBaseFacts B newId initId bmB) (hB : bm.contains (.type B) = true) {rest : List Value} {kw : List (Str × Value)} {Q : Unit → Shared → Prop}
    (hC : h.get? C = some (excClassObj nm q C N bs bm hdct sn sub ab col dd k0 k1 k2 k3 k5 newId)) (hq : Q () ⟨h, g, d, t, os⟩) : wpAny M A (checkBuiltinCall newId ⟨.ref C :: rest, kw⟩) Q E ⟨h, g, d, t, os⟩ := by
  have hcont : (Value.ref C :: bm).contains (.type B) = true := by rw [List.contains_cons, hB, Bool.or_true]
  have hstar := F.noStar
  simp only [checkBuiltinCall, F.newKind, F.newSplit, F.newRow]
  repeat (first | refine wpAny_loadPart_at hC ?_ | (refine wpAny_isSubtype_exc hC ?_; rw [hcont]) | refine wpAny_staticBase_exc hC ?_ | refine wpAny_madeBy_exc hC ?_ | simp only [bne_self_eq_false, Bool.false_eq_true, if_false] | wp_step)
  exact hq
end
section
variable {prog : Program} {w : World} {A : Around} {E : Value → Shared → Prop} {R : Result → Shared → Prop} {h : Heap} {g : Array GenState} {d : Drawn} {t : Nat} {os : OsState}
variable {nm q : Str} {C N : Addr} {bs bm bmB : List Value} {hdct : Bool} {sn : List Str} {sub : List Value} {ab : Bool} {col : Option Bool} {dd : Option Addr} {k0 k1 k2 k3 k5 : Option Value} {B newId initId : String}
theorem new_kw (F : ExcBaseFacts B newId initId bmB) (hB : bm.contains (.type B) = true) (hA : bm.contains (.type "AttributeError") = false) (hN : bm.contains (.type "NameError") = false) {rest : List Value} {kw : List (Str × Value)}
    (hC : h.get? C = some (excClassObj nm q C N bs bm hdct sn sub ab col dd k0 k1 k2 k3 k5 newId))
    (hq : R (.ok (.ret (.ref (h.objs.size + 1)))) ⟨(h.push { cls := .type "tuple", data := .seq rest.toArray }).push
      { cls := .ref C, data := .fields #[.ref h.objs.size, .none, .none, .none, .bool false, .none] }, g, d, t, os⟩) (hrest : rest.length ≤ sizeLine) :
    codeAny (model prog w) A (.builtin newId ⟨.ref C :: rest, kw⟩) R ⟨h, g, d, t, os⟩ := by
  have hends := F.ends
  have hcB : (Value.ref C :: bm).contains (.type B) = true := by rw [List.contains_cons, hB, Bool.or_true]
  have hcA : (Value.ref C :: bm).contains (.type "AttributeError") = false := by rw [List.contains_cons, hA]; rfl
  have hcN : (Value.ref C :: bm).contains (.type "NameError") = false := by rw [List.contains_cons, hN]; rfl
  refine codeAny_builtinAt F.entry ?_
  unfold Builtin.«BaseException.__new__»
  refine wpAt_bind ?_
  show wpAt _ _ _ (stack >>= _) _ _ _
  refine wpAt_bind (wpAt_stack fun p below => wpAt_of_wpAny ?_)
  wp_walk
  refine wpAt_of_wpAny ?_
  rw [F.owner]
  repeat (first | with_reducible refine wpAny_madeHere_exc F.canon hC ?_ | with_reducible refine wpAny_loadPart_at hC ?_ | (with_reducible refine wpAny_isSubtype_exc hC ?_; first | rw [hcB] | rw [hcA] | rw [hcN]) | wp_step)
  show R _ _
  rw [Heap.size_push]
  exact hq
theorem type_call_kw (F : ExcBaseFacts B newId initId bmB) (hB : bm.contains (.type B) = true) (hA : bm.contains (.type "AttributeError") = false) (hN : bm.contains (.type "NameError") = false) {rest : List Value} {kw : List (Str × Value)} {fI : Addr} {Q : Fin → Shared → Prop}
    (hC : h.get? C = some (excClassObj nm q C N bs bm hdct sn sub ab col dd k0 k1 k2 k3 k5 newId))
    (hi : W.Looks (model prog w) h (typeLookup (.ref C) "__init__") (some (.ref fI))) (hb : ∀ self, W.Looks (model prog w) h (bindSpecial (.ref fI) self) (.ref fI, [self])) (hrest : rest.length ≤ sizeLine)
    (hq : codeAny (model prog w) A (.call (.ref fI) ⟨.ref (h.objs.size + 1) :: rest, kw⟩)
      (fun r s' => match r with | .ok (.ret v) => v = .none ∧ Q (.done (.ret (.ref (h.objs.size + 1)))) s' | .ok _ => False | .error e => E e s')
      ⟨(h.push (W.kdv_tup rest)).push (excO C h.objs.size), g, d, t, os⟩) :
    wpAny (model prog w) A (Builtin.«type.__call__» ⟨.ref C :: rest, kw⟩) Q E ⟨h, g, d, t, os⟩ := by
  repeat (first | with_reducible refine wpAny_loadPart_at hC ?_ | with_reducible refine wpAny_madeBy_exc hC ?_ | wp_step)
  refine codeAny_call_builtin_code (Code.quiet_builtin _ F.quiet) (check_new_kw F hB hC ?_)
  refine new_kw F hB hA hN hC ?_ hrest
  show wpAny _ _ _ _ _ _
  have k : ∀ b o, h.get? b = some o → ((h.push (W.kdv_tup rest)).push (excO C h.objs.size)).get? b = some o := fun b o e => Heap.get?_push_of_some _ (Heap.get?_push_of_some _ e)
  have hC₁ := k _ _ hC
  have hget : ((h.push (W.kdv_tup rest)).push (excO C h.objs.size)).get? (h.objs.size + 1) = some (excO C h.objs.size) := by heap_get
  have hcC : (Value.ref C :: bm).contains (.ref C) = true := by simp
  have i1 := hi.keeps k
  have b1 := (hb (.ref (h.objs.size + 1))).keeps k
  unfold isInstance
  repeat (first | with_reducible refine wpAny_loadPart_at hget ?_ | (with_reducible refine wpAny_isSubtype_exc hC₁ ?_; rw [hcC]) | wp_step)
  show wpAny _ _ (typeLookup (.ref C) _) _ _ _
  refine i1.at ?_
  refine wpAny_holding (wpAny_bind (b1.at ?_))
  refine wpAny_bind (wpAny_call (codeAny_mono hq fun r s' z => ?_))
  rcases r with e | (v | _ | _ | _) <;> first | exact z | exact z.elim | skip
  obtain ⟨rfl, z⟩ := z
  first
    | exact wpAny_pure (wpAny_pure z)
    | (wp_walk; exact z)
theorem call_kw (F : ExcBaseFacts B newId initId bmB) (hB : bm.contains (.type B) = true) (hA : bm.contains (.type "AttributeError") = false) (hN : bm.contains (.type "NameError") = false) {rest : List Value} {kw : List (Str × Value)} {fI : Addr}
    (hC : h.get? C = some (excClassObj nm q C N bs bm hdct sn sub ab col dd k0 k1 k2 k3 k5 newId))
    (hi : W.Looks (model prog w) h (typeLookup (.ref C) "__init__") (some (.ref fI))) (hb : ∀ self, W.Looks (model prog w) h (bindSpecial (.ref fI) self) (.ref fI, [self])) (hrest : rest.length ≤ sizeLine)
    (hq : codeAny (model prog w) (A.under (.builtin "type.__call__" ⟨.ref C :: rest, kw⟩)) (.call (.ref fI) ⟨.ref (h.objs.size + 1) :: rest, kw⟩) (W.InitBack (h.objs.size + 1) R)
      ⟨(h.push (W.kdv_tup rest)).push (excO C h.objs.size), g, d, t, os⟩) :
    codeAny (model prog w) A (.call (.ref C) ⟨rest, kw⟩) R ⟨h, g, d, t, os⟩ := by
  have f1 := tc_lookup
  have f2 := tc_bind (.ref C)
  have hTy : (⟨h, g, d, t, os⟩ : Shared).TypeIs (.ref C) "type" := ⟨_, hC, rfl⟩
  refine codeAny_of_tree ?_
  show wpAny _ _ (callAny (.ref C) _) _ _ _
  repeat (any_goals (first | assumption | with_reducible refine wpAny_loadPart_at hC ?_ | wp_step))
  refine ⟨rfl, ?_⟩
  refine codeAny_call_builtin_at (Code.quiet_builtin _ (by decide +kernel)) entry_typeCall (wpAny_check_type_call_sub hC (type_call_kw F hB hA hN hC hi hb hrest ?_))
  refine codeAny_mono hq fun r s' z => ?_
  rcases r with e | (v | _ | _ | _) <;> exact z
end
section
variable {prog : Program} {w : World} {A : Around} {E : Value → Shared → Prop} {R : Result → Shared → Prop} {hp : Heap} {g : Array GenState} {d : Drawn} {t : Nat} {os : OsState}
theorem exc_osaG {K : W.Frag} {name : Str} {tk : Tok} {v : Value} {x C : Addr} {fv : Array Value} {cd : ClassData}
    (X : K.In hp) (hx : hp.get? x = some { cls := .ref C, data := .fields fv }) (hcd : W.clsIn K C = some cd) (hm : ∀ self, refuseLoop self "__setattr__" cd.mro = pure ()) (ne : cd.mro.isEmpty = false) (hob : cd.mro.contains (.type "object") = true) (hh : cd.hasDict = true) (ha : W.findIn K (.ref C) name = some none)
    (hq : ∀ h' tk' dx, (∀ b o, b ≠ x → hp.get? b = some o → h'.get? b = some o) → hp.objs.size ≤ dx → dx ≠ x → h'.get? x = some { cls := .ref C, dict := some dx, data := .fields fv } →
      h'.Ns1 dx (fun y => if y = name then some v else none) → R (.ok (.ret .none)) ⟨h', g, d, tk', os⟩) :
    codeAny (model prog w) A (.call (.builtin "object.__setattr__") ⟨[.ref x, .str name tk, v], []⟩) R ⟨hp, g, d, t, os⟩ := by
  have I : W.InstAt hp x { cls := .ref C, data := .fields fv } C none := ⟨hx, rfl, rfl, trivial⟩
  have SF := F.store_object
  have hxs : x ≠ hp.objs.size := Nat.ne_of_lt (Heap.lt_size hx)
  have sub : W.Looks (model prog w) hp (isInstance (.ref x) (.type "object")) true := I.type.andThen (W.looks_mroIn X (by unfold W.mroIn; rw [hcd, Option.bind_some, if_neg (by rw [ne]; decide), hob]))
  refine codeAny_call_builtin SF.slot.plain SF.entry (@W.check_slot (model prog w) _ _ ⟨hp, g, d, t, os⟩ "object.__setattr__" "object" "__setattr__" (.ref x) [.str name tk, v] [] _ SF.kind SF.split sub (SF.args (.ref x) (.str name tk) v) ?_)
  have hmr : W.Looks (model prog w) hp (mroOf (.ref C)) cd.mro := (W.looks_clsIn X hcd).andThen .now
  have L3 : W.Looks (model prog w) hp (storeTaker? none) none := .now
  have hcls : W.Looks (model prog w) hp (classData C) cd := W.looks_clsIn X hcd
  rw [W.osa_eq, refuse_eq]
  refine wpAny_bind (wpAny_bind (I.type.at (wpAny_bind (hmr.at ?_))))
  rw [hm]
  refine wpAny_pure (wpAny_bind (I.type.at (wpAny_bind ((W.looks_findIn X ha).at (wpAny_bind (L3.at ?_))))))
  show wpAny _ _ (storeInOwnDict (.ref x) (.ref C) (.str name tk) name v false) _ _ _
  obtain ⟨nm, bs, mro, ns, qn, hd, sn, sb, ab, col, del⟩ := cd
  dsimp only at hh
  subst hh
  unfold storeInOwnDict ownDictForStores
  repeat (first | with_reducible refine store_in_new ?_ ?_ | with_reducible refine wpAny_loadPart_at hx ?_ | with_reducible refine hcls.at ?_ | wp_step)
  · exact ⟨_, #[], _, (Heap.get?_update_ne _ _ _ _ hxs.symm).trans (Heap.get?_push_at rfl rfl), rfl, fun e he => absurd he (by simp), fun _ => rfl⟩
  · intro h' tk' hn' hs
    have hx₁ : (hp.push { cls := .type "dict", data := .dict #[] }).get? x = some { cls := .ref C, data := .fields fv } := Heap.get?_push_of_some _ hx
    refine hq h' tk' hp.objs.size (fun b o hb ho => ?_) (Nat.le_refl _) hxs.symm ?_ hn'
    · exact (hs.2 b (Nat.ne_of_lt (Heap.lt_size ho))).trans ((Heap.get?_update_ne _ _ _ _ hb).trans (Heap.get?_push_of_some _ ho))
    · exact (hs.2 x hxs).trans (Heap.get?_update_self _ hx₁ rfl)
end
end EV
namespace EV
open PySem PySem.W PySem.Calls PyProof.Rows PySem.HandSPX
section
variable {prog : Program} {w : World} {A : Around} {E : Value → Shared → Prop} {s : Shared} {K : Frag} {x D : Addr} {ox : Obj} {od : Option Obj}
theorem findObj_dataD {C : Addr} {name : Str} {a g : Value} (hc : (clsIn K C).isSome = true) (ha : findIn K (.ref C) name = some (some a)) (hg : specialIn K a "__get__" = some (some g)) (ht : takesIn K a = some true) : findObj K C od name = some (.bind g a) := by
  obtain ⟨cd, hc⟩ := Option.isSome_iff_exists.mp hc
  unfold findObj
  rw [hc, Option.bind_some, ha, Option.bind_some]
  cases od <;> simp [hg, ht]
theorem kin_classD {Q : Option Value → Shared → Prop} (hga : findIn K (.ref D) "__getattribute__" = some (some (.builtin "BaseException.__getattribute__"))) (hgt : findIn K (.ref D) "__getattr__" = some none) (hsub : subIn K (.ref D) (.type "BaseException") = some true)
    (hdct : hasDictIn K D = true) (ha : findIn K (.ref D) "__class__" = some (some (.builtin "object.__class__")))
    (hn : specialIn K (.builtin "object.__class__") "__get__" = some (some (.builtin "getset_descriptor.__get__"))) (htk : takesIn K (.builtin "object.__class__") = some true) (hm : mroIn K D (.type "object") = some true)
    (X : K.In s.heap) (I : InstAt s.heap x ox D od) (h : Q (some (.ref D)) { s with toks := s.toks + 1 }) : wpAny (model prog w) A (getAttr? (.ref x) "__class__") Q E s := by
  have hf : findObj K D od "__class__" = some (.bind (.builtin "getset_descriptor.__get__") (.builtin "object.__class__")) := findObj_dataD (by obtain ⟨cd, hc, _⟩ := any_some hdct; rw [hc]; rfl) ha hn htk
  obtain ⟨hp, g, d, t, os⟩ := s
  have L0 := I.type (M := model prog w)
  have L1 := looks_findIn (M := model prog w) X hga
  have L2 := looks_findIn (M := model prog w) X hgt
  have L3 := looks_find (M := model prog w) X I hf
  have sub : Looks (model prog w) hp (isInstance (.ref x) (.type "BaseException")) true := L0.andThen (looks_subIn X hsub)
  have hx0 : (false && onTheHeap (Value.builtin "BaseException.__getattribute__")) = false := rfl
  have hx2 : (Value.builtin "BaseException.__getattribute__" == Value.builtin "object.__getattribute__") = false := by decide +kernel
  have hx1 : (onTheHeap (Value.ref D) && Value.builtin "BaseException.__getattribute__" == Value.builtin "object.__getattribute__") = false := by rw [hx2]; rfl
  unfold getAttr? getAttrBy? getAttrBy
  refine wpAny_bind (wpAny_mkText (wpAny_bind (wpAny_attempt (wpAny_holding (wpAny_bind (L0.at (wpAny_bind (L1.at ?_))))))))
  show wpAny _ _ (if (onTheHeap (Value.ref D) && Value.builtin "BaseException.__getattribute__" == Value.builtin "object.__getattribute__") = true then _ else _) _ _ _
  rw [hx1, if_neg Bool.false_ne_true]
  unfold getAttrByItsOwn hookBefore
  refine wpAny_bind ?_
  rw [if_pos (show onTheHeap (Value.ref D) = true from rfl)]
  refine L2.at ?_
  refine wpAny_bind (wpAny_attempt (wpAny_holding ?_))
  unfold callGetattribute
  rw [hx0, if_neg Bool.false_ne_true]
  unfold boundAndCalled
  rw [PySem.F.excAttr_ValueError.ga.bind (.ref x)]
  refine wpAny_bind (wpAny_pure ?_)
  show wpAny _ _ (call (.builtin "BaseException.__getattribute__") [.ref x, .str "__class__" t]) _ _ _
  refine wpAny_call (codeAny_call_builtin PySem.F.excAttr_ValueError.ga.plain PySem.F.entry_bexc_ga ?_)
  refine @check_slot (model prog w) _ _ ⟨hp, g, d, t + 1, os⟩ "BaseException.__getattribute__" "BaseException" "__getattribute__" (.ref x) [.str "__class__" t] [] _ (by decide +kernel) (by decide +kernel) sub (PySem.F.args_bexc_ga (.ref x) (.str "__class__" t)) ?_
  unfold Builtin.«object.__getattribute__»
  refine wpAny_bind (wpAny_of_eq (a := ((Value.ref x : Value), [Value.str "__class__" t])) (by first | rfl | (simp only [slotArgs]; rfl)) ?_)
  refine wpAny_bind (wpAny_pure (wpAny_bind (L0.at (wpAny_bind (L3.at ?_)))))
  show wpAny _ _ (holding [Value.builtin "object.__class__"] (call (.builtin "getset_descriptor.__get__") [.builtin "object.__class__", .ref x, .ref D]) >>= ret) _ _ _
  refine wpAny_bind (wpAny_holding (wpAny_call (class_get (s := ⟨hp, g, d, t + 1, os⟩) (ox := ox) (od := od) X I hm ?_)))
  refine wpAny_pure ?_
  show wpAny _ _ (handedOut (.ref D)) _ _ _
  rw [handedOut_of (v := .ref D) rfl]
  first
    | exact wpAny_pure (wpAny_pure h)
    | exact wpAny_pure h
    | exact wpAny_pure (wpAny_bind (wpAny_pure (wpAny_pure h)))
theorem kitx_excD (hga : findIn K (.ref D) "__getattribute__" = some (some (.builtin "BaseException.__getattribute__"))) (hgt : findIn K (.ref D) "__getattr__" = some none) (hsub : subIn K (.ref D) (.type "BaseException") = some true) (hdct : hasDictIn K D = true) (ha : findIn K (.ref D) "__class__" = some (some (.builtin "object.__class__")))
    (hn : specialIn K (.builtin "object.__class__") "__get__" = some (some (.builtin "getset_descriptor.__get__"))) (htk : takesIn K (.builtin "object.__class__") = some true) (hm : mroIn K D (.type "object") = some true) :
    KitX K (.ref x) (.ref D) (fun h => InstAt h x ox D od) where
  ty := fun _ _ _ I => I.type
  it := fun _ _ X _ => by
    obtain ⟨cdD, hcD, _⟩ := any_some hdct
    unfold clsIn at hcD
    split at hcD
    · rename_i c' d' cd' sl' ho
      intro A' Q' E' s' k q
      unfold isType loadHead
      exact wpAny_bind (wpAny_loadPart (k _ _ (X _ _ ho)) (wpAny_pure q))
    · cases hcD
  ne := fun h tp dd its n sl X htp => by
    obtain ⟨cdD, hcD, _⟩ := any_some hdct
    refine Bool.eq_false_iff.mpr fun q => ?_
    have e : D = tp := Value.ref.inj (beq_iff_eq.mp q)
    subst e
    unfold clsIn at hcD
    split at hcD
    · rename_i c' d' cd' sl' ho
      have z := (X _ _ ho).symm.trans htp
      cases z
    · cases hcD
  ca := fun X I k => kin_classD hga hgt hsub hdct ha hn htk hm X I k
end
end EV
set_option maxHeartbeats 4000000
namespace LX
open PySem PySem.Spec PyProof.Rows L2 C8 SX
structure XC (K : PySem.W.Frag) (C : Addr) : Prop where
  obj : ∃ (tail bmF : List Value) (B newId initId : String), ExcBaseFacts B newId initId bmF ∧ PySem.W.excInitIn K C tail newId = true ∧ tail.contains (.type B) = true ∧ tail.contains (.type "AttributeError") = false ∧ tail.contains (.type "NameError") = false ∧
    tail.contains (.type "object") = true ∧ ∀ self, PySem.refuseLoop self "__setattr__" tail = pure ()
  hd : PySem.W.hasDictIn K C = true
  sa : PySem.W.findIn K (.ref C) "__setattr__" = some (some (.builtin "object.__setattr__"))
  ga : PySem.W.findIn K (.ref C) "__getattribute__" = some (some (.builtin "BaseException.__getattribute__"))
  gg : PySem.W.findIn K (.ref C) "__getattr__" = some none
  exC : PySem.W.subIn K (.ref C) (.type "BaseException") = some true
  tyC : PySem.W.typeIn K (.ref C) = some (.type "type")
  kC : PySem.W.keepIn K (.ref C) = true
  ha : PySem.W.findIn K (.ref C) "__class__" = some (some (.builtin "object.__class__"))
  hn : PySem.W.specialIn K (.builtin "object.__class__") "__get__" = some (some (.builtin "getset_descriptor.__get__"))
  ht : PySem.W.takesIn K (.builtin "object.__class__") = some true
  hm : PySem.W.mroIn K C (.type "object") = some true
def veT : List Value := [.type "ValueError", .type "Exception", .type "BaseException", .type "object"]
def keT : List Value := [.type "KeyError", .type "LookupError", .type "Exception", .type "BaseException", .type "object"]
theorem veT_pass (self : Value) : PySem.refuseLoop self "__setattr__" veT = pure () := HandSPX.refsVE_pass self veT (by decide +kernel)
theorem keT_pass (self : Value) : PySem.refuseLoop self "__setattr__" keT = pure () := by kernel_rfl
theorem XC.ve {K : PySem.W.Frag} {C : Addr} (q : PySem.W.excInitIn K C veT "ValueError.__new__" = true) (hd : PySem.W.hasDictIn K C = true) (sa : PySem.W.findIn K (.ref C) "__setattr__" = some (some (.builtin "object.__setattr__")))
    (ga : PySem.W.findIn K (.ref C) "__getattribute__" = some (some (.builtin "BaseException.__getattribute__"))) (gg : PySem.W.findIn K (.ref C) "__getattr__" = some none) (exC : PySem.W.subIn K (.ref C) (.type "BaseException") = some true) (tyC : PySem.W.typeIn K (.ref C) = some (.type "type"))
    (kC : PySem.W.keepIn K (.ref C) = true) (ha : PySem.W.findIn K (.ref C) "__class__" = some (some (.builtin "object.__class__"))) (hn : PySem.W.specialIn K (.builtin "object.__class__") "__get__" = some (some (.builtin "getset_descriptor.__get__"))) (ht : PySem.W.takesIn K (.builtin "object.__class__") = some true)
    (hm : PySem.W.mroIn K C (.type "object") = some true) : XC K C :=
  ⟨⟨veT, _, _, _, _, PySem.F.excBase_ValueError, q, by decide +kernel, by decide +kernel, by decide +kernel, by decide +kernel, veT_pass⟩, hd, sa, ga, gg, exC, tyC, kC, ha, hn, ht, hm⟩
theorem XC.ke {K : PySem.W.Frag} {C : Addr} (q : PySem.W.excInitIn K C keT "LookupError.__new__" = true) (hd : PySem.W.hasDictIn K C = true) (sa : PySem.W.findIn K (.ref C) "__setattr__" = some (some (.builtin "object.__setattr__")))
    (ga : PySem.W.findIn K (.ref C) "__getattribute__" = some (some (.builtin "BaseException.__getattribute__"))) (gg : PySem.W.findIn K (.ref C) "__getattr__" = some none) (exC : PySem.W.subIn K (.ref C) (.type "BaseException") = some true) (tyC : PySem.W.typeIn K (.ref C) = some (.type "type"))
    (kC : PySem.W.keepIn K (.ref C) = true) (ha : PySem.W.findIn K (.ref C) "__class__" = some (some (.builtin "object.__class__"))) (hn : PySem.W.specialIn K (.builtin "object.__class__") "__get__" = some (some (.builtin "getset_descriptor.__get__"))) (ht : PySem.W.takesIn K (.builtin "object.__class__") = some true)
    (hm : PySem.W.mroIn K C (.type "object") = some true) : XC K C :=
  ⟨⟨keT, _, _, _, _, PySem.F.excBase_LookupError, q, by decide +kernel, by decide +kernel, by decide +kernel, by decide +kernel, keT_pass⟩, hd, sa, ga, gg, exC, tyC, kC, ha, hn, ht, hm⟩
theorem XC.data {K : PySem.W.Frag} {C : Addr} (T : XC K C) : ∃ (nm q : Str) (N : Addr) (bs bm : List Value) (sn : List Str) (sub : List Value) (ab : Bool) (col : Option Bool) (dd : Option Addr) (k0 k1 k2 k3 k5 : Option Value) (B newId initId : String) (bmF : List Value),
    ExcBaseFacts B newId initId bmF ∧ K.lookup C = some (excClassObj nm q C N bs bm true sn sub ab col dd k0 k1 k2 k3 k5 newId) ∧ bm.contains (.type B) = true ∧ bm.contains (.type "AttributeError") = false ∧ bm.contains (.type "NameError") = false ∧
    (∀ self, PySem.refuseLoop self "__setattr__" (.ref C :: bm) = pure ()) ∧ (Value.ref C :: bm).contains (.type "object") = true := by
  obtain ⟨tail, bmF, B, newId, initId, F, q, hB, hA, hN, hO, hp⟩ := T.obj
  have hdct := T.hd
  unfold PySem.W.excInitIn at q
  unfold PySem.W.hasDictIn PySem.W.clsIn at hdct
  split at q
  · rename_i dd cd sl ho
    rw [ho] at hdct
    split at q
    · rename_i C' bm k0 k1 k2 k3 n k5 hm hs
      simp only [Bool.and_eq_true, beq_iff_eq, Bool.not_eq_true'] at q
      obtain ⟨⟨⟨rfl, rfl⟩, hdel⟩, ht⟩ := q
      obtain ⟨nm, bs, mro, ns, qn, hd, sn, sub, ab, col, del⟩ := cd
      have hdct : hd = true := hdct
      dsimp only at hm hdel
      subst hm hdel hdct
      have hsl : sl = #[k0, k1, k2, k3, some (.builtin n), k5] := by
        obtain ⟨l⟩ := sl
        simp only at hs
        rw [hs]
      subst hsl
      have hT : ∀ X : String, bm.contains (.type X) = tail.contains (.type X) := fun X => PySem.W.excTail_contains X _ ht
      refine ⟨nm, qn, ns, bs, bm, sn, sub, ab, col, dd, k0, k1, k2, k3, k5, B, n, initId, bmF, F, ho, (hT _).trans hB, (hT _).trans hA, (hT _).trans hN, fun self => ?_, ?_⟩
      · exact PySem.W.excTail_pass self (hp self) _ ht
      · rw [List.contains_cons, hT, hO, Bool.or_true]
    · cases q
  · cases q
section
variable {X : Cx} {pins : List (Addr × Obj)} {σ : L2.St} {H : Hp} {s : Shared} {a C dx : Addr} {f : Str} {y : V} {u : Value} {Q : Unit → Shared → Prop} {E : Value → Shared → Prop} {A : Around}
theorem ost_newG (T : XC X.K C) (I : Inv X pins σ H s) (e : H a = some (exo a C none)) (hno : PySem.W.findIn X.K (.ref C) f = some none) (ry : RelV y u)
    (h : ∀ dx s', H dx = none → dx ≠ a → Inv X pins σ (upd (upd H dx (exd dx [(f, y)])) a (exo a C (some dx))) s' → Q () s') : wpAny (model X.prog X.w) A (setAttr (.ref a) f u) Q E s := by
  obtain ⟨nm, q, N, bs, bm, sn, sub, ab, col, dd, k0, k1, k2, k3, k5, B, newId, initId, bmF, F, hC, hB, hA, hN, hp0, hob⟩ := T.data
  have hcl : PySem.W.clsIn X.K C = some { name := nm, bases := bs, mro := .ref C :: bm, ns := N, qualname := q, hasDict := true, slotNames := sn, subclasses := sub, abstract := ab, collection := col, hasDel := false } := by unfold PySem.W.clsIn; rw [hC] <;> rfl
  obtain ⟨t1, ho⟩ := exo_at I.hok e
  obtain ⟨hp, g, d, t, os⟩ := s
  refine PySem.W.set_plain I.kIn (ox := { cls := .ref C, dict := none, data := .fields #[.ref t1, .none, .none, .none, .bool false, .none] }) (od := none) ⟨ho, rfl, rfl, trivial⟩ T.sa ?_
  refine EV.exc_osaG I.kIn ho hcl hp0 rfl hob rfl hno (fun h' tk' dx k dn dne hx hn => ?_)
  have hnd : H dx = none := I.hok.fresh dn
  have nd : ∀ {b : Addr} {o : Obj}, hp.get? b = some o → b ≠ dx := fun {b o} q => Nat.ne_of_lt (Nat.lt_of_lt_of_le (Heap.lt_size q) dn)
  have na : ∀ {b : Addr}, H b = none → b ≠ a := fun {b} n z => by
    rw [z, e] at n
    cases n
  have Un1 : Un X.fs [] H (upd (upd H dx (exd dx [(f, y)])) a (exo a C (some dx))) hp h' := {
    keep := fun b o q n _ _ => k b o (na n) q
    slot := fun b o q n _ _ => ⟨o.slots, k b o (na n) q⟩
    free := fun b o q n _ => by rw [upd_ne (na n), upd_ne (nd q)]; exact n
    there := fun b o q _ => by
      by_cases hb : b = a
      · exact ⟨_, by rw [hb]; exact hx⟩
      · exact ⟨o, k b o hb q⟩
    tups := fun b xs q => by rw [upd_ne (at_ne e q exo_tup), upd_ne (ne_of_none q hnd)]; exact q
    frzs := fun b o v q => by rw [upd_ne (at_ne e q exo_frz), upd_ne (ne_of_none q hnd)]; exact q
    tbls := fun b ps q => ⟨#[], by rw [upd_ne (at_ne e q exo_tbl), upd_ne (ne_of_none q hnd), q]; simp⟩ }
  refine h dx _ hnd dne (I.un (t' := tk') Un1 fun b o q => ?_)
  by_cases hb : b = a
  · subst hb
    rw [upd_same] at q
    cases q
    exact exo_ok hx
  · rw [upd_ne hb] at q
    by_cases hd : b = dx
    · subst hd
      rw [upd_same] at q
      cases q
      exact exd_ok hn (relO_put (fs := []) ry fun g => True.intro)
    · rw [upd_ne hd] at q
      exact (I.hok b o q).stay (fun c v hc z => k c v (by
          rcases hc with hc | hc
          · rw [hc]
            exact hb
          · exact at_ne e hc exo_own) z)
        (fun c hc => by rw [upd_ne (at_ne e hc exo_own), upd_ne (ne_of_none hc hnd)]; exact hc) (fun c xs hc => by rw [upd_ne (at_ne e hc exo_tup), upd_ne (ne_of_none hc hnd)]; exact hc)
end
def tOstG (K : PySem.W.Frag) (f : Str) (to te : TE) : TS := fun D σ H => te σ H fun y H1 => to σ H1 fun x H2 => ∃ a C : Addr, x = .ref a ∧ XC K C ∧ PySem.W.findIn K (.ref C) f = some none ∧
  H2 a = some (exo a C none) ∧ ∀ dx, H2 dx = none → dx ≠ a → D.nx σ (upd (upd H2 dx (exd dx [(f, y)])) a (exo a C (some dx)))
section
variable {X : Cx} {o e : Expr} {es : List Expr} {to te : TE} {ta : TA} {f : Str} {p p' p1 p2 pos : Pos}
theorem ps_ostG (ho : PE X o to) (he : PE X e te) (hs : swapsWith e (some (.Attribute o f p')) pos.line X.env = pure false := by rfl) : PS X (.Assign [.Attribute o f p'] e pos) (tOstG X.K f to te) := by
  refine ⟨fun pins s σ H D I h => ?_⟩
  refine plainObj_wpAny_Assign_Attribute (thn (he.run pins s σ H _ I h) fun v s1 ⟨y, H1, I1, r1, q1⟩ => thn (ho.run pins s1 σ H1 _ I1 q1) fun u s2 ⟨x, H2, I2, r2, a, C, ex, T, hno, ea, q⟩ => ?_) hs
  subst ex
  obtain rfl : u = Value.ref a := r2
  exact ost_newG T I2 ea hno r1 fun dx s' n ne J => ⟨σ, _, J, q dx n ne⟩
theorem pmk_xc {CX : CXT} {x : Str} {C fI : Addr} {k : Nat} {fd : FuncData} {ps : List Str} {sp : Sp} {ds : List Value} {dvs : List V} (T : XC X.K C) (iC : PySem.W.findIn X.K (.ref C) "__init__" = some (some (.ref fI))) (tI : PySem.W.typeIn X.K (.ref fI) = some (.type "function"))
    (F1 : FnOk X.prog X.w X.K X.mg X.base CX k fI fd ps sp) (hr : Room (k + 1) X.A) (hb : Binds X.K fd ps ds) (hd : Vals dvs ds) (hx : Passes CX X (fun _ _ _ => False)) (hg : Gl X x) (hm : X.mg x = some (.ref C)) (ha : PA X (e :: es) ta)
    (hdb : (x == ("__debug__" : Str)) = false := by decide) (he : starEach (e :: es) X.env = (false, eval e X.env) :: starEach es X.env := by rfl) (hpl : (backTo pos (starEach es X.env)).any (·.1) = false := by rfl) :
    PMk X (.Call (.Name x p) (e :: es) [] pos) (tMkO C sp dvs ta) := by
  intro pins s σ H Q I h
  obtain ⟨nm, q, N, bs, bm, sn, sub, ab, col, dd, k0, k1, k2, k3, k5, B, newId, initId, bmF, F, hC, hB, hA, hN, hp0, hob⟩ := T.data
  refine wpAny_Call_Name_kw (ld_glob I hg hm ?_ hdb)
  refine PySem.W.callWith_K (h₀ := X.base) I.ok.mod.kin T.kC (thn (ha.run pos pins s σ H _ I h) fun us s1 ⟨vs, H1, I1, r1, hz, q1⟩ => ⟨I1.kIn, ?_⟩) he hpl
  show wpAny _ _ (call (.ref C) us) _ _ _
  obtain ⟨hp, g, dr, tk, os⟩ := s1
  have hsz : hp.objs.size ≤ hp.objs.size + 1 := Nat.le_succ _
  have hn : H1 (hp.objs.size + 1) = none := I1.hok.fresh hsz
  have hq := q1 (hp.objs.size + 1) hn
  have kk : ∀ b o, hp.get? b = some o → ((hp.push (PySem.W.kdv_tup us)).push (PySem.HandSPX.excO C hp.objs.size)).get? b = some o := fun b o e => Heap.get?_push_of_some _ (Heap.get?_push_of_some _ e)
  have hget : ((hp.push (PySem.W.kdv_tup us)).push (PySem.HandSPX.excO C hp.objs.size)).get? (hp.objs.size + 1) = some (PySem.HandSPX.excO C hp.objs.size) := by heap_get
  have I2 : Inv X pins σ (upd H1 (hp.objs.size + 1) (exo (hp.objs.size + 1) C none)) ⟨(hp.push (PySem.W.kdv_tup us)).push (PySem.HandSPX.excO C hp.objs.size), g, dr, tk, os⟩ :=
    I1.laid (t' := tk) (a := hp.objs.size + 1) (o := exo (hp.objs.size + 1) C none) (h' := (hp.push (PySem.W.kdv_tup us)).push (PySem.HandSPX.excO C hp.objs.size)) kk hsz (exo_ok hget)
  have r2 : Vals (V.ref (hp.objs.size + 1) :: (vs ++ dvs)) (Value.ref (hp.objs.size + 1) :: (us ++ ds)) := .cons rfl (r1.append hd)
  have hl : (Value.ref (hp.objs.size + 1) :: us ++ ds).length = ps.length := by
    have e := r2.length
    rw [F1.len _ _ _ _ hq] at e
    exact e.symm
  have hus : us.length ≤ sizeLine := by
    rw [← Paired.length r1, sizeLine_eq]
    omega
  refine wpAny_call (EV.call_kw (kw := []) F hB hA hN (I1.kIn _ _ hC) (PySem.W.looks_findIn I1.kIn iC) (fun self => PySem.W.bind_fn I1.kIn self tI) hus
    (codeAny_mono (F1.run _ X.stack _ _ ⟨Value.ref (hp.objs.size + 1) :: us, []⟩ (Value.ref (hp.objs.size + 1) :: (us ++ ds)) _ _ (fun _ _ _ => False) (hr.make C us []) (I2.env0.make C us []) (hb _ (Value.ref (hp.objs.size + 1) :: us) I2.kIn hl) r2 hq) fun r s' hq' => ?_))
  cases r with
  | error er => exact hx pins σ _ _ er s' I2 hq'
  | ok fl =>
    cases fl with
    | ret u =>
      obtain ⟨v, H2, os2, bare2, un2, hok2, rv, ev, d, fs, ea, ed, hd1, q2⟩ := hq'
      subst ev
      obtain ⟨h2, g2, d2, t2, os'⟩ := s'
      exact ⟨rv, mk_end (raises_own T.exC T.tyC) I1 hsz kk un2 hok2 os2 bare2 ea ed hd1 q2⟩
    | next => exact False.elim hq'
    | brk => exact False.elim hq'
    | cont => exact False.elim hq'
theorem pmk_own0 {C : Addr} {bmB : List Value} {B newId initId : String} {x : Str} {p pos : Pos} (F : ExcBaseFacts B newId initId bmB) (q : PySem.W.excIn X.K C bmB newId = true) (gC : X.mg x = some (.ref C)) (kC : PySem.W.keepIn X.K (.ref C) = true) (r : Raises X (.ref C)) (hg : Gl X x)
    (hdb : (x == ("__debug__" : Str)) = false := by decide) : PMk X (.Call (.Name x p) [] [] pos) (fun σ H Q => Q (.ref C) none H) := by
  intro pins s σ H Q I h
  refine wpAny_Call_Name_kw (ld_glob I hg gC ?_ hdb)
  refine PySem.W.callWith_K0 I.kIn kC ?_
  show wpAny _ _ (call (.ref C) []) _ _ _
  obtain ⟨bm, N, nm, qn, bs, hdct, sn, sub, ab, col, dd, k0, k1, k2, k3, k5, mN, hC, hN, hni, T⟩ := exc_obj I.kIn q
  refine wpAny_call_exc_subT F T hC hN hni (fun h' e hm => ?_) (by show 0 ≤ sizeLine; exact Nat.zero_le _)
  exact mk_of I hm r h (I.hok.gone hm.new)
end
def rIsX (K : PySem.W.Frag) (a : Addr) (cls : Value) (d : Option Addr) : List V → Hp → VK → Prop := fun xs H Q => ∃ (D : Addr) (c : V) (cv : Value) (b : Bool), cls = .ref D ∧ ExcC K D ∧ xs = [.ref a, c] ∧ (∀ u, RelV c u → u = cv) ∧ PySem.W.kitOne K (.ref D) cv = some b ∧
  (d = none ∨ ∃ dd fs, d = some dd ∧ H dd = some (.xd fs)) ∧ Q (.bl b) H
theorem call_isX {X : Cx} {a : Addr} {cls : Value} {d : Option Addr} {oe : Obj} {pn : List (Addr × Obj)} (hz : Zc cls d oe) (hf : ∃ vs, oe.data = .fields vs) : CallR (X.suite a ((a, oe) :: pn)) (.builtin "isinstance") (rIsX X.K a cls d) := by
  intro pins s σ H xs us Q I r h
  obtain ⟨D, c, cv, b, ecls, C, rfl, hcv, e, hd, q⟩ := h
  subst ecls
  cases r with
  | cons rx rr =>
    cases rr with
    | cons rt rr =>
      cases rr
      cases rx
      have ec := hcv _ rt
      subst ec
      obtain ⟨hget, _⟩ := I.pin (a, oe) (List.mem_append.mpr (.inl List.mem_cons_self))
      obtain ⟨vs, hv⟩ := hf
      have J : ∃ od : Option Obj, PySem.W.InstAt s.heap a oe D od := by
        obtain ⟨oc, od, oda, osl⟩ := oe
        obtain ⟨h1, h2⟩ := hz
        dsimp only at h1 h2 hv
        subst h1 h2 hv
        rcases hd with rfl | ⟨dd, fs, rfl, hdd⟩
        · exact ⟨none, hget, rfl, rfl, trivial⟩
        · have hx : ObjOk X.prog X.w H s.heap dd (.xd fs) := I.hok dd _ hdd
          obtain ⟨mA, hns, _⟩ := hx
          obtain ⟨o, _, _, ho, _⟩ := hns
          exact ⟨some o, hget, rfl, rfl, ho⟩
      obtain ⟨od, J⟩ := J
      exact PySem.W.kia_one (EV.kitx_excD (od := od) C.hg C.hk C.hs C.hd C.ha C.hn C.ht C.hm) I.kIn J e (fun z => nomatch z) fun tk => ⟨.bl b, H, I.kept (t' := tk) fun _ _ z => z, rfl, q⟩
theorem XC.exc {K : PySem.W.Frag} {C : Addr} (T : XC K C) : ExcC K C := ⟨T.ga, T.gg, T.exC, T.hd, T.ha, T.hn, T.ht, T.hm⟩
theorem XC.xf {K : PySem.W.Frag} {C : Addr} (T : XC K C) : XfC K C := ⟨T.ga, T.gg, T.exC, T.hd⟩
theorem XC.raises {X : Cx} {C : Addr} (T : XC X.K C) : Raises X (.ref C) := raises_own T.exC T.tyC
theorem XC.exm {K : PySem.W.Frag} {C : Addr} {cls : Value} {b : Bool} (T : XC K C) (h : PySem.W.subIn K cls (.ref C) = some b) : PySem.W.exmOne K cls (.ref C) = some b := PySem.W.exm_ref T.exC T.hd T.tyC h
end LX
set_option maxHeartbeats 4000000
namespace LX
open PySem PySem.Spec PyProof.Rows L2 C8 SX
section
variable {P : Program} {w : World} {K : PySem.W.Frag} {mg : Str → Option Value} {base : Heap}
theorem fnX {x qual : Str} {st : Stmt} {f : Addr} {fd : FuncData} {N ps : List Str} {k : Nat} {sp : Sp} (F : C8.Fun K x qual st f fd) (S : FnScope N ps (C8.fnScope st)) (len : ∀ vs H Q E, sp vs H Q E → vs.length = ps.length)
    (hbody : ∀ (cdv : Value) (A : Around) (outer : List Env) (s : Shared) (H : Hp) (vs : List V) (Q : VK) (E : XK), Room k (A.deeper (envOfC qual (C8.fnScope st) s.heap.objs.size f cdv)) → sp vs H Q E →
      ∃ t, PSs (cxOf (L2.CX P w) P w K mg base N qual (C8.fnScope st) f cdv A outer s H E) (C8.fnBody st) t ∧ t { nx := fun _ H' => Q .non H', rt := Q } (L2.start N vs) H) : FnOk P w K mg base (L2.CX P w) (k + 1) f fd ps sp := by
  obtain ⟨oc, od, dV, kV, doc, pm, an, cdv, ct, osl, rfl, lk, hcd⟩ := F.ex
  exact fn_of lk hcd S len fun A outer s H vs Q E hr hsp => hbody cdv A outer s H vs Q E hr hsp
structure CalX (P : Program) (w : World) (K : PySem.W.Frag) (mg : Str → Option Value) (base : Heap) (k : Nat) (x : Str) (sp : Sp) : Prop where
  ex : ∃ (f : Addr) (fd : FuncData) (ps : List Str), FnOk P w K mg base (L2.CX P w) k f fd ps sp ∧ mg x = some (.ref f) ∧ PySem.W.keepIn K (.ref f) = true ∧ Binds K fd ps []
structure MetX (P : Program) (w : World) (K : PySem.W.Frag) (mg : Str → Option Value) (base : Heap) (k : Nat) (C : Addr) (m : Str) (sp : Sp) : Prop where
  ex : ∃ (f : Addr) (fd : FuncData) (ps : List Str), Cls K C ∧ Meth K C m f ∧ FnOk P w K mg base (L2.CX P w) k f fd ps sp ∧ Binds K fd ps []
structure MakX (P : Program) (w : World) (K : PySem.W.Frag) (mg : Str → Option Value) (base : Heap) (k : Nat) (x : Str) (C : Addr) (sp : Sp) : Prop where
  ex : ∃ (f : Addr) (fd : FuncData) (ps : List Str), Mk K C f ∧ FnOk P w K mg base (L2.CX P w) k f fd ps sp ∧ mg x = some (.ref C) ∧ Binds K fd ps []
structure RaiX (P : Program) (w : World) (K : PySem.W.Frag) (mg : Str → Option Value) (base : Heap) (k : Nat) (x : Str) (C : Addr) (sp : Sp) : Prop where
  ex : ∃ (f : Addr) (fd : FuncData) (ps : List Str), XC K C ∧ PySem.W.findIn K (.ref C) "__init__" = some (some (.ref f)) ∧ PySem.W.typeIn K (.ref f) = some (.type "function") ∧ FnOk P w K mg base C8.CX0 k f fd ps sp ∧ mg x = some (.ref C) ∧ Binds K fd ps []
theorem calX {x : Str} {st : Stmt} {f : Addr} {fd : FuncData} {N ps : List Str} {k : Nat} {sp : Sp} (F : Def K mg x st f fd) (b : Binds K fd ps []) (S : FnScope N ps (C8.fnScope st)) (len : ∀ vs H Q E, sp vs H Q E → vs.length = ps.length)
    (hbody : ∀ (cdv : Value) (A : Around) (outer : List Env) (s : Shared) (H : Hp) (vs : List V) (Q : VK) (E : XK), Room k (A.deeper (envOfC x (C8.fnScope st) s.heap.objs.size f cdv)) → sp vs H Q E →
      ∃ t, PSs (cxOf (L2.CX P w) P w K mg base N x (C8.fnScope st) f cdv A outer s H E) (C8.fnBody st) t ∧ t { nx := fun _ H' => Q .non H', rt := Q } (L2.start N vs) H) : CalX P w K mg base (k + 1) x sp :=
  ⟨f, fd, ps, fnX F.fn S len hbody, F.mgf, F.kp, b⟩
theorem metX {m qual : Str} {C : Addr} {st : Stmt} {f : Addr} {fd : FuncData} {N ps : List Str} {k : Nat} {sp : Sp} (c : Cls K C) (me : Meth K C m f) (F : C8.Fun K m qual st f fd) (b : Binds K fd ps []) (S : FnScope N ps (C8.fnScope st)) (len : ∀ vs H Q E, sp vs H Q E → vs.length = ps.length)
    (hbody : ∀ (cdv : Value) (A : Around) (outer : List Env) (s : Shared) (H : Hp) (vs : List V) (Q : VK) (E : XK), Room k (A.deeper (envOfC qual (C8.fnScope st) s.heap.objs.size f cdv)) → sp vs H Q E →
      ∃ t, PSs (cxOf (L2.CX P w) P w K mg base N qual (C8.fnScope st) f cdv A outer s H E) (C8.fnBody st) t ∧ t { nx := fun _ H' => Q .non H', rt := Q } (L2.start N vs) H) : MetX P w K mg base (k + 1) C m sp :=
  ⟨f, fd, ps, c, me, fnX F S len hbody, b⟩
theorem makX {x qual : Str} {C : Addr} {st : Stmt} {f : Addr} {fd : FuncData} {N ps : List Str} {k : Nat} {sp : Sp} (M : Mk K C f) (hm : mg x = some (.ref C)) (F : C8.Fun K "__init__" qual st f fd) (b : Binds K fd ps []) (S : FnScope N ps (C8.fnScope st)) (len : ∀ vs H Q E, sp vs H Q E → vs.length = ps.length)
    (hbody : ∀ (cdv : Value) (A : Around) (outer : List Env) (s : Shared) (H : Hp) (vs : List V) (Q : VK) (E : XK), Room k (A.deeper (envOfC qual (C8.fnScope st) s.heap.objs.size f cdv)) → sp vs H Q E →
      ∃ t, PSs (cxOf (L2.CX P w) P w K mg base N qual (C8.fnScope st) f cdv A outer s H E) (C8.fnBody st) t ∧ t { nx := fun _ H' => Q .non H', rt := Q } (L2.start N vs) H) : MakX P w K mg base (k + 1) x C sp :=
  ⟨f, fd, ps, M, fnX F S len hbody, hm, b⟩
theorem raiX {x qual : Str} {C : Addr} {st : Stmt} {f : Addr} {fd : FuncData} {N ps : List Str} {k : Nat} {sp : Sp} (T : XC K C) (iC : PySem.W.findIn K (.ref C) "__init__" = some (some (.ref f))) (tI : PySem.W.typeIn K (.ref f) = some (.type "function")) (hm : mg x = some (.ref C)) (F : C8.Fun K "__init__" qual st f fd) (b : Binds K fd ps []) (S : FnScope N ps (C8.fnScope st)) (len : ∀ vs H Q E, sp vs H Q E → vs.length = ps.length)
    (hbody : ∀ (cdv : Value) (A : Around) (outer : List Env) (s : Shared) (H : Hp) (vs : List V) (Q : VK) (E : XK), Room k (A.deeper (envOfC qual (C8.fnScope st) s.heap.objs.size f cdv)) → sp vs H Q E →
      ∃ t, PSs (cxOf C8.CX0 P w K mg base N qual (C8.fnScope st) f cdv A outer s H E).nox (C8.fnBody st) t ∧ t { nx := fun _ H' => Q .non H', rt := Q } (L2.start N vs) H) : RaiX P w K mg base (k + 1) x C sp :=
  ⟨f, fd, ps, T, iC, tI, fn0 F S len hbody, hm, b⟩
end
def tMethS (C : Addr) (m : Str) (sp : Sp) (E : L2.St → XK) (ta : TE) (t : TA) : TE := fun σ H Q => ta σ H fun x H1 => ∃ a dx fs, x = .ref a ∧ H1 a = some (.ins C dx fs) ∧ fs.lookup m = none ∧ t σ H1 fun vs H2 => sp (x :: vs) H2 Q (E σ)
def tMakeS (C : Addr) (sp : Sp) (E : L2.St → XK) (t : TA) : TE := fun σ H Q => t σ H fun vs H1 => ∀ x dx, H1 x = none → H1 dx = none → dx ≠ x → sp (.ref x :: vs) (upd (upd H1 dx (.own x)) x (.ins C dx [])) (fun v H2 => v = .non ∧ Q (.ref x) H2) (E σ)
section
variable {X : Cx} {k j : Nat} {f C : Addr} {sp : Sp} {W : WX} {x m : Str} {p pos apos : Pos} {e o : Expr} {es : List Expr} {ta : TE} {t : TA}
theorem pe_cX (c : CalX X.prog X.w X.K X.mg X.base k x sp) (tk : Takes X W) (hr : Room j X.A) (hk : k ≤ j) (hg : Gl X x) (ha : PA X (e :: es) t) (hdb : (x == ("__debug__" : Str)) = false := by decide)
    (he : starEach (e :: es) X.env = (false, eval e X.env) :: starEach es X.env := by rfl) (hpl : (backTo pos (starEach es X.env)).any (·.1) = false := by rfl) : PE X (.Call (.Name x p) (e :: es) [] pos) (tCallS sp (WE W) t) := by
  obtain ⟨f, fd, ps, F, hm, kp, b⟩ := c.ex
  exact pe_callS F (hr.mono hk) hg hm kp b (fun σ => passAt tk σ) ha hdb he hpl
theorem pe_mtX {pl : Sem Bool} (c : MetX X.prog X.w X.K X.mg X.base k C m sp) (tk : Takes X W) (hr : Room j X.A) (hk : k ≤ j) (he : PE X o ta) (ha : PA X (e :: es) t)
    (hst : starEach (e :: es) X.env = (false, eval e X.env) :: starEach es X.env := by rfl) (hpl : (backTo pos (starEach es X.env)).any (·.1) = false := by rfl)
    (ht : eval (.Call (.Attribute o m apos) (e :: es) [] pos) X.env = (do
      let ov ← eval o X.env
      standAt apos.atName
      let (f, first) ← holding [ov] (getMethod ov m pl)
      callWith pos f first (backTo pos (starEach (e :: es) X.env)) (backToKw pos (keywordEach [] X.env))) := by rfl) :
    PE X (.Call (.Attribute o m apos) (e :: es) [] pos) (tMethS C m sp (WE W) ta t) := by
  obtain ⟨f, fd, ps, cl, hm, F, hb⟩ := c.ex
  refine ⟨fun pins s σ H Q I h => ?_⟩
  refine PySem.W.methodCall_KW (pl := pl) (thn (he.run pins s σ H _ I h) fun u s1 ⟨x, H1, I1, rx, a, dx, fs, ex, ea, l, q⟩ => ?_) ht
  subst ex
  obtain rfl : u = Value.ref a := rx
  refine getmeth_ok I1 ea cl hm l ?_
  refine PySem.W.callWith_K (first := [.ref a]) (h₀ := X.base) I.ok.mod.kin hm.kp (thn (ha.run pos pins s1 σ H1 _ I1 q) fun us s2 ⟨vs, H2, I2, r, q2⟩ => ⟨I2.kIn, ?_⟩) hst hpl
  exact run_fnS (us := .ref a :: us) (vs := .ref a :: vs) F (hr.mono hk) hb (passAt tk σ) I2 (.cons rfl r) q2
theorem pe_mkX (c : MakX X.prog X.w X.K X.mg X.base k x C sp) (tk : Takes X W) (hr : Room j X.A) (hk : k + 1 ≤ j) (hg : Gl X x) (ha : PA X (e :: es) t) (hdb : (x == ("__debug__" : Str)) = false := by decide)
    (he : starEach (e :: es) X.env = (false, eval e X.env) :: starEach es X.env := by rfl) (hpl : (backTo pos (starEach es X.env)).any (·.1) = false := by rfl) : PE X (.Call (.Name x p) (e :: es) [] pos) (tMakeS C sp (WE W) t) := by
  obtain ⟨f, fd, ps, M, F, hm, hb⟩ := c.ex
  refine ⟨fun pins s σ H Q I h => ?_⟩
  refine wpAny_Call_Name_kw (ld_glob I hg hm ?_ hdb)
  refine PySem.W.callWith_K (h₀ := X.base) I.ok.mod.kin M.kp (thn (ha.run pos pins s σ H _ I h) fun us s1 ⟨vs, H1, I1, r, q⟩ => ⟨I1.kIn, ?_⟩) he hpl
  have hq := q (s1.heap.objs.size + 1) s1.heap.objs.size (I1.hok.fresh (Nat.le_succ _)) (I1.hok.fresh (Nat.le_refl _)) (Nat.ne_of_lt (Nat.lt_succ_self _))
  have I2 := Inv.made (C := C) I1
  have r2 : Vals (V.ref (s1.heap.objs.size + 1) :: vs) (Value.ref (s1.heap.objs.size + 1) :: us) := .cons rfl r
  have hl : (Value.ref (s1.heap.objs.size + 1) :: us ++ []).length = ps.length := by
    have e := r2.length
    rw [F.len _ _ _ _ hq] at e
    rw [List.append_nil]
    exact e.symm
  have hb2 := hb _ (Value.ref (s1.heap.objs.size + 1) :: us) I2.kIn hl
  rw [List.append_nil] at hb2
  refine wpAny_call (make_map (f := f) I1.kIn M.makes M.init (beq_iff_eq.mp M.fn) (codeAny_mono (F.run _ X.stack _ _ ⟨Value.ref (s1.heap.objs.size + 1) :: us, []⟩ (Value.ref (s1.heap.objs.size + 1) :: us) _ _ (WE W σ) ((hr.mono hk).make C us [])
    (I2.env0.make C us []) hb2 r2 hq) fun r s' hq' => ?_))
  cases r with
  | error e => exact passAt tk σ pins _ _ e s' I2 hq'
  | ok fl =>
    cases fl with
    | ret u =>
      obtain ⟨v, H', I3, rv, ev, q3⟩ := I2.after hq'
      subst ev
      exact ⟨rv, ⟨V.ref (s1.heap.objs.size + 1), H', I3, rfl, q3⟩⟩
    | next => exact False.elim hq'
    | brk => exact False.elim hq'
    | cont => exact False.elim hq'
theorem pmk_rai (c : RaiX X.prog X.w X.K X.mg X.base k x C sp) (hr : Room j X.A) (hk : k + 1 ≤ j) (hg : Gl X x) (ha : PA X (e :: es) t) (hdb : (x == ("__debug__" : Str)) = false := by decide)
    (he : starEach (e :: es) X.env = (false, eval e X.env) :: starEach es X.env := by rfl) (hpl : (backTo pos (starEach es X.env)).any (·.1) = false := by rfl) : PMk X (.Call (.Name x p) (e :: es) [] pos) (tMkO C sp [] t) := by
  obtain ⟨f, fd, ps, T, iC, tI, F, hm, b⟩ := c.ex
  exact pmk_xc T iC tI F (hr.mono hk) b .nil C8.pass0 hg hm ha hdb he hpl
end
def wManyA (K : PySem.W.Frag) (Wout : WX) (D : Ends) : List (Value × Option Nat × (Addr → Value → Option Addr → TS)) → WX
  | [] => Wout
  | (c, none, ts) :: r => fun cls d σ H => ∃ b, PySem.W.exmOne K cls c = some b ∧ (b = true → ∀ a, H a = none → ts a cls d D σ H) ∧ (b = false → wManyA K Wout D r cls d σ H)
  | (c, some i, ts) :: r => fun cls d σ H => ∃ b, PySem.W.exmOne K cls c = some b ∧ (b = true → ∀ a, H a = none → ts a cls d { nx := fun σ' H' => D.nx (σ'.set i none) H', rt := D.rt, bk := fun σ' H' => D.bk (σ'.set i none) H', ct := fun σ' H' => D.ct (σ'.set i none) H' } (σ.set i (some (.ref a))) H) ∧
      (b = false → wManyA K Wout D r cls d σ H)
inductive HdsA (X : Cx) : List ExceptHandler → List (Value × Option Nat × (Addr → Value → Option Addr → TS)) → Prop
  | nil : HdsA X [] []
  | cons {x : Str} {c : Value} {ts : Addr → Value → Option Addr → TS} {b₀ : Stmt} {suite : List Stmt} {np pos' : Pos} {hds : List ExceptHandler} {l : List (Value × Option Nat × (Addr → Value → Option Addr → TS))} (hc : Names X x c)
      (hsu : ∀ (a : Addr) (oe : Obj) (cls : Value) (d : Option Addr) (pn : List (Addr × Obj)), Zc cls d oe → (∃ vs, oe.data = .fields vs) → PSs (X.suite a ((a, oe) :: pn)) (b₀ :: suite) (ts a cls d)) (r : HdsA X hds l) :
      HdsA X (.ExceptHandler (some (.Name x np)) none (b₀ :: suite) pos' :: hds) ((c, none, ts) :: l)
  | consA {x n : Str} {i : Nat} {c : Value} {ts : Addr → Value → Option Addr → TS} {b₀ : Stmt} {suite : List Stmt} {np pos' : Pos} {hds : List ExceptHandler} {l : List (Value × Option Nat × (Addr → Value → Option Addr → TS))} (hi : X.N[i]? = some n) (hln : X.env.kindOf n = some .local) (hc : Names X x c)
      (hsu : ∀ (a : Addr) (oe : Obj) (cls : Value) (d : Option Addr) (pn : List (Addr × Obj)), Zc cls d oe → (∃ vs, oe.data = .fields vs) → PSs (X.suite a ((a, oe) :: pn)) (b₀ :: suite) (ts a cls d)) (r : HdsA X hds l) :
      HdsA X (.ExceptHandler (some (.Name x np)) (some n) (b₀ :: suite) pos' :: hds) ((c, some i, ts) :: l)
section
variable {X : Cx} {body : List Stmt} {h₀ : ExceptHandler} {hds : List ExceptHandler} {l : List (Value × Option Nat × (Addr → Value → Option Addr → TS))} {pos : Pos} {tb : WX → TS} {Wout : WX}
theorem ps_try_manyA (hs : X.stack = X.env :: X.outer) (hf : X.env.frame = some X.env.locals) (hN : X.N.Nodup) (tk : Takes X Wout)
    (hb : ∀ (W : WX) (pn : List (Addr × Obj)) (xe : Value → Shared → Prop), Takes (X.tr pn xe) W → PassesOwn (model X.prog X.w) X.A X.env xe → PSs (X.tr pn xe) body (tb W))
    (hh : HdsA X (h₀ :: hds) l) : PS X (.Try body (h₀ :: hds) [] [] pos) (fun D σ H => tb (wManyA X.K Wout D l) D σ H) := by
  refine ⟨fun pins s σ H D I h => ?_⟩
  have ok := I.ok
  have hfr : X.A.frames = some (X.env :: X.outer) := by rw [ok.frames, hs]
  refine wpAny_Try_except ?_
  refine wpAny_mono ((hb (wManyA X.K Wout D l) (X.pn ++ pins) (fun e s₁ => wpAny (model X.prog X.w) X.A (noteFrame e X.env) (fun _ s₂ => wpAny (model X.prog X.w) X.A (setFlight e none) (fun _ s₃ =>
    wpAny (model X.prog X.w) X.A (handleBy e X.env (h₀ :: hds)) (SP X pins D) X.xe s₃) X.xe s₂) X.xe s₁) (fun u s' xx => ?_) PassesOwn.looking).run [] s σ H D (I.toTry _) h) (fun f s1 hsp => ?_) (fun e s1 he => he)
  · obtain ⟨a, B, sI, pins', σ', H', cls, d, rfl, J', nb, up, sky, na, os, ag, w⟩ := xx
    have J : Inv X pins σ' H' sI := J'.ofTry ok
    have sky' : Sky B (X.env :: X.outer) a (Zc cls d) X.env.locals s'.heap := by rw [← hs]; exact sky
    show wpAny (model X.prog X.w) X.A (noteFrame (.ref a) X.env) _ _ _
    refine Sky.land Zc.steady hfr hf sky' fun h3 fl3 up3 => ?_
    have J3 : Inv X pins σ' H' { s' with heap := h3 } := J.landed nb fl3.1 (up.trans up3) os ag
    obtain ⟨oe3, vs3, he3, hz3, hd3⟩ := fl3.there
    have notFr : ∀ {h : Heap} {o : Obj} {vs : Array Value}, h.FunFrames B (X.env :: X.outer) → h.get? a = some o → o.data = .fields vs → a ∉ frs (X.env :: X.outer) := fun {h o vs} ff e dd hm => by
      obtain ⟨_, o', e', hnf⟩ := ff.mem hm
      rw [e] at e'; cases e'
      exact hnf _ dd
    have nfr := notFr fl3.2.2.1 he3 hd3
    have nL : a ≠ X.env.locals := fun z => nfr (List.mem_filterMap.mpr ⟨X.env, List.mem_cons_self, by rw [hf, z]⟩)
    have nF : a ∉ X.fs := fun hm => by
      obtain ⟨e, he, q⟩ := List.mem_filterMap.mp hm
      exact nfr (List.mem_filterMap.mpr ⟨e, List.mem_cons_of_mem _ he, q⟩)
    have S3 := J3.suite he3 hd3 na nL nF
    have LT : PySem.W.Looks (model X.prog X.w) h3 (typeOf (.ref a)) cls := fun A Q E s k q => wpAny_typeOf_ref (k _ _ he3) (by rw [hz3.1]; exact q)
    have test : ∀ {x : Str} {c : Value} {np : Pos} (hc : Names X x c) {Q : Value → Shared → Prop} {E : Value → Shared → Prop}, Q c { s' with heap := h3 } → wpAny (model X.prog X.w) (X.A.mark (some (.ref a))) (eval (.Name x np) X.env) Q E { s' with heap := h3 } := fun {x c np} hc {Q E} q => by
      obtain ⟨hg, hdbg, hm | ⟨hm, hv, hnn⟩⟩ := hc
      · exact ld_glob (X := X.suite a ((a, oe3) :: (X.pn ++ pins))) S3 hg hm q hdbg
      · exact ld_blt (X := X.suite a ((a, oe3) :: (X.pn ++ pins))) S3 hg hm hv q hnn hdbg
    have go : ∀ {hds' : List ExceptHandler} {l' : List (Value × Option Nat × (Addr → Value → Option Addr → TS))}, HdsA X hds' l' → wManyA X.K Wout D l' cls d σ' H' →
        wpAny (model X.prog X.w) X.A (handleBy (.ref a) X.env hds') (SP X pins D) X.xe { s' with heap := h3 } := by
      intro hds' l' hk
      induction hk with
      | nil =>
        intro w
        refine wpAny_handleBy_nil ?_
        obtain ⟨k1, k2, k3, oe, vs, T, oT, ts', he, hz, hd, h1, hr⟩ := id fl3
        unfold PySem.passOn
        refine wpAny_bind (wpAny_field he hd h1 ?_)
        rw [if_neg (show ¬ ((Value.ref T == Value.none) = true) from by simp)]
        have fin : wpAny (model X.prog X.w) X.A (setFlight (.ref a) X.env.frame) (fun _ s4 => wpAny (model X.prog X.w) X.A (throw (.ref a) : Sem Flow) (SP X pins D) X.xe s4) X.xe { s' with heap := h3 } := by
          rw [hf]
          refine HandSPX.setFlight_upZ fl3 fun h4 hh4 up4 => wpAny_throw (tk _ _ ?_)
          exact ⟨a, B, sI, pins, σ', H', cls, d, rfl, J, nb, (up.trans up3).trans up4, .inr (.inr (by rw [hs]; exact hh4)), na, os, ag, w⟩
        first
          | exact wpAny_bind (wpAny_pure (wpAny_bind fin))
          | exact wpAny_bind fin
      | @cons x c ts b₀ suite np pos' hds2 l2 hc hsu r ih =>
        intro w
        obtain ⟨b, hb1, hyes, hno⟩ := w
        refine wpAny_handleBy_cons (codeAny_handlers_test ?_) (by intro q; cases q)
        have LM := PySem.W.exm_one (M := model X.prog X.w) (J3.kIn) LT hb1
        refine test hc (LM.here ?_)
        cases b with
        | true =>
          refine codeAny_handlers_suite ?_
          refine HandSPX.lands_againZ fl3 fun h4 fl4 up4 => ?_
          have J4 : Inv X pins σ' H' { s' with heap := h4 } := J.landed nb fl4.1 ((up.trans up3).trans up4) os ag
          obtain ⟨oe4, vs4, he4, hz4, hd4⟩ := fl4.there
          have S4 := J4.suite he4 hd4 na nL nF
          refine wpAny_mono ((hsu a oe4 cls d (X.pn ++ pins) hz4 ⟨_, hd4⟩).run [] _ _ H' _ S4 (hyes rfl a na)) (fun f s6 hsp => ?_) (fun _ _ z => False.elim z)
          cases f with
          | next =>
            obtain ⟨σ6, H6, S6, q6⟩ := hsp
            exact ⟨_, _, S6.unsuite ok, q6⟩
          | brk =>
            obtain ⟨σ6, H6, S6, q6⟩ := hsp
            exact ⟨_, _, S6.unsuite ok, q6⟩
          | cont =>
            obtain ⟨σ6, H6, S6, q6⟩ := hsp
            exact ⟨_, _, S6.unsuite ok, q6⟩
          | ret u =>
            obtain ⟨v6, σ6, H6, S6, r6, q6⟩ := hsp
            exact ⟨_, _, _, S6.unsuite ok, r6, q6⟩
        | false =>
          show wpAny _ X.A (handleBy (.ref a) X.env hds2) _ _ _
          exact ih (hno rfl)
      | @consA x n i c ts b₀ suite np pos' hds2 l2 hi hln hc hsu r ih =>
        intro w
        obtain ⟨b, hb1, hyes, hno⟩ := w
        refine wpAny_handleBy_cons (codeAny_handlers_test ?_) (by intro q; cases q)
        have LM := PySem.W.exm_one (M := model X.prog X.w) (J3.kIn) LT hb1
        refine test hc (LM.here ?_)
        cases b with
        | true =>
          refine codeAny_handlers_suite_as ?_
          refine HandSPX.lands_againZ fl3 fun h4 fl4 up4 => ?_
          have J4 : Inv X pins σ' H' { s' with heap := h4 } := J.landed nb fl4.1 ((up.trans up3).trans up4) os ag
          obtain ⟨oe4, vs4, he4, hz4, hd4⟩ := fl4.there
          have S4 := J4.suite he4 hd4 na nL nF
          refine store_ok (X := X.suite a ((a, oe4) :: (X.pn ++ pins))) (v := .ref a) S4 hN hi (.inl hln) rfl (fun s5 S5 => ?_) (.inr hln)
          refine wpAny_mono ((hsu a oe4 cls d (X.pn ++ pins) hz4 ⟨_, hd4⟩).run [] s5 _ H' _ S5 (hyes rfl a na)) (fun f s6 hsp => ?_) (fun _ _ z => False.elim z)
          have end_ : ∀ {σ6 : L2.St} {H6 : Hp} {Q : Shared → Prop}, Inv (X.suite a ((a, oe4) :: (X.pn ++ pins))) [] σ6 H6 s6 → (∀ s7, Inv X pins (σ6.set i none) H6 s7 → Q s7) →
              wpAny (model X.prog X.w) X.A (do bindName X.env n .none; unbindBehindTheSuite X.env n pos') (fun _ s7 => Q s7) X.xe s6 := fun {σ6 H6 Q} S6 hq => gone_ok (S6.unsuite ok) hN hi hln hq
          cases f with
          | next =>
            obtain ⟨σ6, H6, S6, q6⟩ := hsp
            exact end_ S6 fun s7 J7 => ⟨_, _, J7, q6⟩
          | brk =>
            obtain ⟨σ6, H6, S6, q6⟩ := hsp
            exact end_ S6 fun s7 J7 => ⟨_, _, J7, q6⟩
          | cont =>
            obtain ⟨σ6, H6, S6, q6⟩ := hsp
            exact end_ S6 fun s7 J7 => ⟨_, _, J7, q6⟩
          | ret u =>
            obtain ⟨v6, σ6, H6, S6, r6, q6⟩ := hsp
            exact end_ S6 fun s7 J7 => ⟨_, _, _, J7, r6, q6⟩
        | false =>
          show wpAny _ X.A (handleBy (.ref a) X.env hds2) _ _ _
          exact ih (hno rfl)
    exact go hh w
  · cases f with
    | next =>
      obtain ⟨σ', H', J', q⟩ := hsp
      exact wpAny_execs_nil ⟨σ', H', J'.ofTry ok, q⟩
    | brk =>
      obtain ⟨σ', H', J', q⟩ := hsp
      exact ⟨σ', H', J'.ofTry ok, q⟩
    | cont =>
      obtain ⟨σ', H', J', q⟩ := hsp
      exact ⟨σ', H', J'.ofTry ok, q⟩
    | ret u =>
      obtain ⟨v, σ', H', J', r, q⟩ := hsp
      exact ⟨v, σ', H', J'.ofTry ok, r, q⟩
end
end LX
set_option maxHeartbeats 2000000
namespace LX
open PySem PySem.Spec PyProof.Rows L2 C8 SX
mutual
theorem dp_same {K : PySem.W.Frag} {H H' : Hp} (s : Same H H') : ∀ (d : PyData) (v : V), Dp K H v d → Dp K H' v d
  | .none, _, h => by cases h; exact .non
  | .bool b, _, h => by cases h; exact .bl b
  | .int i, _, h => by cases h; exact .int i
  | .str x, _, h => by cases h; exact .str x
  | .list ds, _, h => by
    cases h with
    | lst hs ha => exact .lst (s.seq hs) (dpa_same s ds _ ha)
  | .tuple ds, _, h => by
    cases h with
    | tup hs ha => exact .tup (sm_seqT s hs) (dpa_same s ds _ ha)
  | .dict _, _, h => by cases h
theorem dpa_same {K : PySem.W.Frag} {H H' : Hp} (s : Same H H') : ∀ (ds : List PyData) (vs : List V), DpAll K H vs ds → DpAll K H' vs ds
  | [], _, h => by cases h; exact .nil
  | d :: ds, _, h => by
    cases h with
    | cons h1 h2 => exact .cons (dp_same s d _ h1) (dpa_same s ds _ h2)
end
theorem dpa_len {K : PySem.W.Frag} {H : Hp} : ∀ {vs : List V} {ds : List PyData}, DpAll K H vs ds → vs.length = ds.length
  | _, _, .nil => rfl
  | _, _, .cons _ h => by rw [List.length_cons, List.length_cons, dpa_len h]
theorem dpa_at {K : PySem.W.Frag} {H : Hp} : ∀ {vs : List V} {ds : List PyData}, DpAll K H vs ds → ∀ (i : Nat) (v : V), vs[i]? = some v → ∃ d, ds[i]? = some d ∧ Dp K H v d
  | _, _, .nil, i, v, h => by simp at h
  | _, _, .cons h _, 0, v, e => by cases e; exact ⟨_, rfl, h⟩
  | _, _, .cons _ h, i + 1, v, e => dpa_at h i v e
def wo (B : List Addr) (H : Hp) : Hp := fun a => if a ∈ B then none else H a
def Liv (B : List Addr) (H : Hp) : Prop := ∀ b ∈ B, H b ≠ none
section
variable {B : List Addr} {H H' : Hp} {a : Addr} {o : HO}
theorem wo_in (h : a ∈ B) : wo B H a = none := if_pos h
theorem wo_out (h : a ∉ B) : wo B H a = H a := if_neg h
theorem wo_get (h : H a = some o) (n : a ∉ B) : wo B H a = some o := (wo_out n).trans h
theorem of_wo (h : wo B H a = some o) : H a = some o ∧ a ∉ B := by
  by_cases n : a ∈ B
  · rw [wo_in n] at h; cases h
  · exact ⟨(wo_out n).symm.trans h, n⟩
theorem wo_same (s : Same H H') : Same (wo B H) (wo B H') := fun a o h => let ⟨e, n⟩ := of_wo h; wo_get (s _ _ e) n
theorem wo_sub : Same (wo B H) H := fun _ _ h => (of_wo h).1
theorem wo_cons {b : Addr} : Same (wo (b :: B) H) (wo B H) := fun a o h => let ⟨e, n⟩ := of_wo h; wo_get e fun m => n (List.mem_cons_of_mem _ m)
theorem wo_upd_in (h : a ∈ B) : wo B (upd H a o) = wo B H := by
  funext c
  by_cases n : c ∈ B
  · rw [wo_in n, wo_in n]
  · rw [wo_out n, wo_out n, upd_ne (fun e => n (by rw [e]; exact h))]
theorem Liv.same (l : Liv B H) (s : Same H H') : Liv B H' := fun b hb e => by
  cases q : H b with
  | none => exact l b hb q
  | some o => rw [s _ _ q] at e; cases e
theorem Liv.new (l : Liv B H) (h : H a = none) : a ∉ B := fun m => l a m h
theorem Liv.cons {b : Addr} (l : Liv B H) (h : H b = some o) : Liv (b :: B) H := fun c hc e => by
  rcases List.mem_cons.mp hc with rfl | m
  · rw [h] at e; cases e
  · exact l c m e
theorem same_new {p : Addr} (s : Same H H') (h : H' p = none) : H p = none := by
  cases e : H p with
  | none => rfl
  | some o => rw [s _ _ e] at h; cases h
end
def RD (K : PySem.W.Frag) (B : List Addr) (t : TE) (d : PyData) (σ : L2.St) (H : Hp) : Prop := Liv B H → ∀ Q : VK, (∀ v H', Same H H' → Dp K (wo B H') v d → Q v H') → t σ H Q
def RDs (K : PySem.W.Frag) (B : List Addr) (t : TA) (ds : List PyData) (σ : L2.St) (H : Hp) : Prop := Liv B H → ∀ Q : List V → Hp → Prop, (∀ vs H', Same H H' → DpAll K (wo B H') vs ds → Q vs H') → t σ H Q
theorem dpa_of {K : PySem.W.Frag} {H : Hp} : ∀ {ys : List V} {n : Nat} {dd : Nat → PyData}, ys.length = n → (∀ (j : Nat) y, ys[j]? = some y → Dp K H y (dd j)) → DpAll K H ys ((List.range n).map dd)
  | [], _, _, hl, _ => by subst hl; exact .nil
  | y :: ys, _, dd, hl, h => by
    subst hl
    rw [List.length_cons, List.range_succ_eq_map, List.map_cons, List.map_map]
    exact .cons (h 0 y rfl) (dpa_of (dd := dd ∘ Nat.succ) rfl fun j z e => h (j + 1) z e)
section
variable {K : PySem.W.Frag} {B : List Addr} {σ : L2.St} {H : Hp} {t : TE} {ta : TA} {d : PyData} {ds : List PyData}
theorem rd_non : RD K B (tC .non) .none σ H := fun _ _ q => q _ H (Same.refl H) .non
theorem rd_int {i : Int} : RD K B (tC (.int i)) (.int i) σ H := fun _ _ q => q _ H (Same.refl H) (.int i)
theorem rd_bl {b : Bool} : RD K B (tC (.bl b)) (.bool b) σ H := fun _ _ q => q _ H (Same.refl H) (.bl b)
theorem rd_str {x : Str} : RD K B (tC (.str x)) (.str x) σ H := fun _ _ q => q _ H (Same.refl H) (.str x)
theorem rd_var {i : Nat} {v : V} (e : σ[i]? = some (some v)) (h : Dp K (wo B H) v d) : RD K B (tVar i) d σ H := fun _ _ q => ⟨v, e, q _ H (Same.refl H) h⟩
theorem rd_nil : RDs K B tNil [] σ H := fun _ _ q => q _ H (Same.refl H) .nil
theorem rd_cons (h1 : RD K B t d σ H) (h2 : ∀ H', Same H H' → Liv B H' → RDs K B ta ds σ H') : RDs K B (tCons t ta) (d :: ds) σ H := fun l _ q =>
  h1 l _ fun v H1 s1 hv => h2 H1 s1 (l.same s1) (l.same s1) _ fun vs H2 s2 hvs => q _ H2 (s1.trans s2) (.cons (dp_same (wo_same s2) _ _ hv) hvs)
theorem rd_lst (h : RDs K B ta ds σ H) (hl : ds.length ≤ sizeLine := by decide) : RD K B (tLst ta) (.list ds) σ H := fun l _ q =>
  h l _ fun vs H1 s1 hvs => ⟨by rw [dpa_len hvs]; exact hl, fun p hp => q _ _ (s1.trans (sm_new hp)) (.lst (SqL.of (wo_get upd_same ((l.same s1).new hp))) (dpa_same (wo_same (sm_new hp)) _ _ hvs))⟩
theorem rd_tup (h : RDs K B ta ds σ H) (hl : ds.length ≤ sizeLine := by decide) : RD K B (tTup ta) (.tuple ds) σ H := fun l _ q =>
  h l _ fun vs H1 s1 hvs => ⟨by rw [dpa_len hvs]; exact hl, fun p hp => q _ _ (s1.trans (sm_new hp)) (.tup (SqT.of (wo_get upd_same ((l.same s1).new hp))) (dpa_same (wo_same (sm_new hp)) _ _ hvs))⟩
theorem rd_lstA {Q : VK} (l : Liv B H) (h : RDs K B ta ds σ H) (hl : ds.length ≤ sizeLine) (q : ∀ p xs H', Same H H' → H p = none → H' p = some (.lst xs) → DpAll K (wo B H') xs ds → Q (.ref p) H') : tLst ta σ H Q :=
  h l _ fun vs H1 s1 hvs => ⟨by rw [dpa_len hvs]; exact hl, fun p hp => q p vs _ (s1.trans (sm_new hp)) (same_new s1 hp) upd_same (dpa_same (wo_same (sm_new hp)) _ _ hvs)⟩
theorem gn1 {i : Nat} {v : V} {Q : L2.St → Hp → Prop} (h : Q (σ.set i (some v)) H) : gName i v σ H Q := h
theorem pr1 {k : V} {tv : TE} {Q : List (V × V) → Hp → Prop} (h : tv σ H fun y H2 => Q [(k, y)] H2) : tPairs [(tC k, tv)] σ H Q := h
theorem lc_rd {J : It} {n : Nat} {G : Hp → Prop} {Y : Nat → Hp → V → Hp → Prop} {H1 : Hp} (w : Walk J n G Y) {g : TG} {te : TE} {vs : List Nat} {D : Addr} {Qd : Hp → Prop} (hB : Liv B H1) (hD : H1 D = none) (hn : n < sizeLine) (dd : Nat → PyData) (hG : ∀ H, Same H1 H → G H)
    (hs : ∀ i x H H' (R : V → Hp → Prop), i < n → Same H1 H → Liv (D :: B) H → Y i H x H' → (∀ y H4, Same H H4 → Dp K (wo (D :: B) H4) y (dd i) → R y H4) → g x (wipe σ vs) H' fun σ2 H2 => wipe σ2 vs = wipe σ vs ∧ te σ2 H2 R)
    (hd : ∀ ys H, Same H1 H → H D = some (.lst ys) → DpAll K (wo B H) ys ((List.range n).map dd) → Dp K (wo B H) (.ref D) (.list ((List.range n).map dd)) → Qd H) :
    ∃ W : Nat → Nat → Hp → Prop, (∃ m, W 0 m (upd H1 D (.lst []))) ∧ ∀ i m H, W i m H →
      (J.stop i H ∧ Qd H) ∨ (J.go i H ∧ ∃ Nx : Hp → Prop, (∀ H', Nx H' → ∃ m', m' < m ∧ W (i + 1) m' H') ∧ ∀ x H', J.yld i H x H' → g x (wipe σ vs) H' fun σ2 H2 => wipe σ2 vs = wipe σ vs ∧ tYes σ2 H2 fun b H3 =>
        if b = true then te σ2 H3 fun y H4 => ∃ acc, H4 D = some (.lst acc) ∧ acc.length < sizeLine ∧ Nx (upd H4 D (.lst (acc ++ [y]))) else Nx H3) := by
  refine lc_keepH keep_same w hD hn (fun i y H => Dp K (wo (D :: B) H) y (dd i)) hG (fun i y H H' _ r h => dp_same (wo_same r) _ _ h) (fun i y H acc o _ _ h => by rw [wo_upd_in List.mem_cons_self]; exact h) (fun i x H H' acc R hi r hDa hy hR => hs i x H H' R hi r ((hB.same r).cons hDa) hy hR) (fun ys H hl hg r hDs => ?_)
  have ha := dpa_of hl fun j y e => dp_same wo_cons _ _ (hg j y e)
  exact hd ys H r hDs ha (.lst (SqL.of (wo_get hDs (hB.new hD))) ha)
end
end LX
set_option maxHeartbeats 4000000
namespace LX
open PySem PySem.Spec PyProof.Rows L2 C8 SX ClX
structure CMX (P : Program) (w : World) (K : PySem.W.Frag) (mg : Str → Option Value) (base : Heap) (k : Nat) (C : Addr) (m : Str) (sp : Sp) : Prop where
  ex : ∃ (p g : Addr) (fd : FuncData) (ps : List Str) (mc : Value), CRead K C mc ∧ CMet K C mc m p g ∧ FnOk P w K mg base (L2.CX P w) k g fd ps sp ∧ Binds K fd ps []
def tCMX (C : Addr) (sp : Sp) (E : L2.St → XK) (ta : TE) (t : TA) : TE := fun σ H Q => ta σ H fun x H1 => x = .ref C ∧ t σ H1 fun vs H2 => sp (.ref C :: vs) H2 Q (E σ)
section
variable {X : Cx} {k j : Nat} {C : Addr} {m : Str} {sp : Sp} {W : WX} {o e : Expr} {es : List Expr} {pos apos : Pos} {ta : TE} {t : TA} {pl : Sem Bool}
theorem run_codeS {f : Addr} {fd : FuncData} {ps : List Str} {σ : L2.St} {pins : List (Addr × Obj)} {H : Hp} {s : Shared} {Q : VK} {us : List Value} {vs : List V} (F : FnOk X.prog X.w X.K X.mg X.base (L2.CX X.prog X.w) k f fd ps sp) (hr : Room k X.A) (hb : Binds X.K fd ps []) (hx : PassesAt (L2.CX X.prog X.w) X σ (WE W σ))
    (I : Inv X pins σ H s) (r : Vals vs us) (h : sp vs H Q (WE W σ)) : codeAny (model X.prog X.w) X.A (.call (.ref f) ⟨us, []⟩) (fun r s' => match r with | .ok (.ret v) => EP X pins σ Q v s' | .ok _ => False | .error e => X.xe e s') s := by
  have hl : us.length = ps.length := by rw [← r.length]; exact F.len _ _ _ _ h
  have b := hb s us I.kIn (by rw [List.append_nil]; exact hl)
  rw [List.append_nil] at b
  refine codeAny_mono (F.run X.A X.stack s H ⟨us, []⟩ us vs Q (WE W σ) hr I.env0 b r h) fun r s' hq => ?_
  cases r with
  | error e => exact hx pins H s e s' I hq
  | ok fl =>
    cases fl with
    | ret u => exact I.after hq
    | next => exact False.elim hq
    | brk => exact False.elim hq
    | cont => exact False.elim hq
theorem pe_cmX (c : CMX X.prog X.w X.K X.mg X.base k C m sp) (tk : Takes X W) (hr : Room j X.A) (hk : k ≤ j) (he : PE X o ta) (ha : PA X (e :: es) t)
    (hst : starEach (e :: es) X.env = (false, eval e X.env) :: starEach es X.env := by rfl) (hpl : (backTo pos (starEach es X.env)).any (·.1) = false := by rfl)
    (ht : eval (.Call (.Attribute o m apos) (e :: es) [] pos) X.env = (do
      let ov ← eval o X.env
      standAt apos.atName
      let (f, first) ← holding [ov] (getMethod ov m pl)
      callWith pos f first (backTo pos (starEach (e :: es) X.env)) (backToKw pos (keywordEach [] X.env))) := by rfl) :
    PE X (.Call (.Attribute o m apos) (e :: es) [] pos) (tCMX C sp (WE W) ta t) := by
  obtain ⟨p, g, fd, ps, mc, r, cm, F, hb⟩ := c.ex
  refine ⟨fun pins s σ H Q I h => ?_⟩
  refine PySem.W.methodCall_KW (pl := pl) (thn (he.run pins s σ H _ I h) fun u s1 ⟨x, H1, I1, rx, ex, q⟩ => ?_) ht
  subst ex
  obtain rfl : u = Value.ref C := rx
  refine getmethcm_ok I1 r cm fun s2 I2 => ?_
  refine callwith_cm I2 (base_none I1 (Nat.le_refl _)) cm.fi (thn (ha.run pos _ s2 σ H1 _ I2 q) fun us s3 ⟨vs, H2, I3, rv, q2⟩ => ⟨⟨pin_at I3, I3.kIn⟩, ?_⟩) hst hpl
  have z : wpAny (model X.prog X.w) X.A (call (.ref s1.heap.objs.size) us) (EP X ((s1.heap.objs.size, PySem.W.methodObj (.ref g) (.ref C)) :: pins) σ Q) X.xe s3 :=
    wpAny_call (PySem.W.method_call (pin_at I3) (run_codeS (us := .ref C :: us) (vs := .ref C :: vs) F (hr.mono hk) hb (passAt tk σ) I3 (.cons rfl rv) q2))
  exact thn z fun _ _ y => unpinE y
theorem pe_c0 {x : Str} {p : Pos} {sp : Sp} {dvs : List V} (c : C8.Cal X.prog X.w X.K X.mg X.base k x sp dvs) (hr : Room j X.A) (hk : k ≤ j) (hg : Gl X x) (hdb : (x == ("__debug__" : Str)) = false := by decide) : PE X (.Call (.Name x p) [] [] pos) (tCall sp dvs C8.E0 tNil) := by
  obtain ⟨f, fd, ps, ds, F, hm, kp, b, d⟩ := c.ex
  exact pe_call0 F (hr.mono hk) hg hm kp b d C8.pass0 hdb
end
end LX
set_option maxHeartbeats 4000000
namespace LX
open PySem PySem.Spec PyProof.Rows L2 C8 SX
section
variable {prog : Program} {w : World} {A : Around} {R : Result → Shared → Prop} {I S : Addr} {fp wr : List Addr} {G : Array GenState → Array GenState → Prop} {n : Nat} {P : Nat → Value → Prop} {St : Nat → Shared → Prop}
def cntT (xs : List Str) : Nat → Nat
  | 0 => 0
  | i + 1 => if (xs.take i).contains (xs.getD i default) then cntT xs i else cntT xs i + 1
theorem cntT_succ {xs : List Str} {i : Nat} {x : Str} (h : xs[i]? = some x) : (if decide (x ∈ xs.take i) = true then cntT xs i else cntT xs i + 1) = cntT xs (i + 1) := by
  have e : xs.getD i default = x := by rw [List.getD_eq_getElem?_getD, h]; rfl
  show _ = if (xs.take i).contains (xs.getD i default) then cntT xs i else cntT xs i + 1
  rw [e]
  by_cases q : x ∈ xs.take i <;> simp [q]
theorem cntT_le (xs : List Str) : ∀ i, cntT xs i ≤ i
  | 0 => Nat.le_refl _
  | i + 1 => by
    have := cntT_le xs i
    unfold cntT
    split <;> omega
abbrev ElemG (prog : Program) (w : World) (xs : List Str) (i : Nat) (S : Addr) (h : Heap) : Prop := h.SetOf (PySem.strKind prog w) S (fun k => decide (k ∈ xs.take i)) (cntT xs i)
theorem ElemG.stay {xs : List Str} {i : Nat} {h h' : Heap} (e : ElemG prog w xs i S h) (k : ∀ o, h.get? S = some o → h'.get? S = some o) : ElemG prog w xs i S h' :=
  let ⟨o, es, ep, tb, ho, rest⟩ := e; ⟨o, es, ep, tb, k o ho, rest⟩
theorem set_loopG (W : WalksS prog w A.in1 I fp wr G n P St) (off : S ∉ fp) {xs : List Str} (hl : xs.length = n) (room : n < scanBound) (val : ∀ i v, P i v → ∃ x t, xs[i]? = some x ∧ v = .str x t) :
    ∀ (k i : Nat) (s : Shared), i + k = n → St i s → ElemG prog w xs i S s.heap → (∀ s', Moved (S :: wr) G s s' → ElemG prog w xs n S s'.heap → R (.ok (.ret .none)) s') →
      codeAny (model prog w) A (.builtin "set.update.loop" ⟨[.ref S, .ref I], []⟩) R s
  | 0, i, s, hk, hst, he, hR => by
    obtain rfl : i = n := hk
    refine codeAny_builtin PyProof.Rows.F.entry_set_update_loop ?_
    rw [Around.under_plainId PyProof.Rows.F.plain_set_update_loop _]
    refine wpAny_bind (W.done s _ _ hst fun s' hm => wpAny_pure (hR s' (hm.mono fun b hb => List.mem_cons_of_mem _ hb) (he.stay fun o e => hm.heap S o (fun h => off (W.sub _ h)) e)))
  | k + 1, i, s, hk, hst, he, hR => by
    refine codeAny_builtin PyProof.Rows.F.entry_set_update_loop ?_
    rw [Around.under_plainId PyProof.Rows.F.plain_set_update_loop _]
    refine wpAny_bind (W.item i s _ _ (by omega) hst fun v s' hP hst' hm => ?_)
    obtain ⟨x, t, hx, rfl⟩ := val i v hP
    have he' : ElemG prog w xs i S s'.heap := he.stay fun o e => hm.heap S o (fun h => off (W.sub _ h)) e
    show wpAny _ A.in1 (holding [Value.str x t] (setAdd S (.str x t)) >>= _) _ _ s'
    refine wpAny_bind (wpAny_holding ?_)
    unfold setAdd
    refine wpAny_holding (wpAny_bind ((PySem.strKind prog w).pyHash (k := x) (strKind_is _ _ _ _) ?_))
    refine wpAny_setAddHashed_of (knd := PySem.strKind prog w) (s := { s' with toks := s'.toks + 1 }) (strKind_is _ _ _ _) rfl he' (by have := cntT_le xs i; omega) fun h' hsb hS2 => ?_
    have he2 : ElemG prog w xs (i + 1) S h' := SetOf_congr hS2 (fun y => by rw [take_more hx]; by_cases e : y ∈ xs.take i <;> by_cases e2 : y = x <;> simp [e, e2]) (cntT_succ hx)
    refine wpAny_pure ⟨plainId_quiet PyProof.Rows.F.plain_set_update_loop _, set_loopG W off hl room val k (i + 1) _ (by omega) (W.frame _ s' _ _ hst' (Nat.le_succ _) fun b hb o e => ?_) he2 fun s2 hm2 he3 => ?_⟩
    · rw [hsb.2 b (fun h => off (h ▸ hb))]; exact e
    · refine hR s2 (Moved.trans W.gtrans ((hm.mono fun b hb => List.mem_cons_of_mem _ hb).then_heap (Nat.le_succ _) fun b o hb e => ?_) hm2) he3
      rw [hsb.2 b (fun h => hb (by rw [h]; exact List.mem_cons_self))]; exact e
end
section
variable {prog : Program} {w : World} {A : Around} {E : Value → Shared → Prop} {s : Shared}
theorem set_of_listG {l : Addr} {items : Array Value} {xs : List Str} {Q : Value → Shared → Prop} (hh : A.handled = none) (hl : s.heap.IsList l items) (hi : PyProof.Rows.StrsAre items.toList xs) (room : xs.length < scanBound)
    (h : ∀ (h' : Heap) (tk : Nat), ElemG prog w xs xs.length s.heap.objs.size h' → (∀ b o, s.heap.get? b = some o → h'.get? b = some o) → Q (.ref s.heap.objs.size) { s with heap := h', toks := tk }) :
    wpAny (model prog w) A (call (.type "set") [.ref l]) Q E s := by
  obtain ⟨c, tl, hmro⟩ := PySem.F.called_set.mro
  have hmade := PySem.F.called_set.made
  have hsub := PySem.F.called_set.sub
  refine wpAny_call (codeAny_of_tree ?_)
  refine wpAny_pure ⟨Code.quiet_builtin _ (by decide +kernel), codeAny_builtin PySem.F.entry_type_call ?_⟩
  rw [Around.under_plain (weight_type_call_type "set" [.ref l] []) rfl]
  have nt := PySem.F.called_set.notType
  have cc := PySem.F.called_set.canCreate
  have ct := PySem.F.typeCall_set_1 (.ref l)
  repeat (any_goals (first | assumption | wp_step))
  refine codeAny_mono (code_set_new_1 (.ref l) (E := E) (Q₁ := fun obj s1 => ∃ led : Bool, obj = .ref s.heap.objs.size ∧ s1 = { s with heap := s.heap.push { cls := .type "set", dict := none, data := .set #[] 0 (.fresh 0 0 led) } }) fun led => ⟨led, rfl, rfl⟩) fun r s1 hr => ?_
  match r, hr with
  | .ok (.ret obj), hr =>
    obtain ⟨led, rfl, rfl⟩ := hr
    have hS : (s.heap.push (setO led)).get? s.heap.objs.size = some (setO led) := Heap.get?_push_size _ rfl
    have hTy : Shared.TypeIs { s with heap := s.heap.push (setO led) } (.ref s.heap.objs.size) "set" := ⟨_, hS, rfl⟩
    have li := PySem.F.called_set.init.lookup
    have bi := PySem.F.called_set.init.bind (.ref s.heap.objs.size)
    repeat (any_goals (first | assumption | wp_step))
    refine codeAny_mono (codeAny_call_builtin (R := wants (fun r s2 => r = .none ∧ ∃ h' tk, s2 = { s with heap := h', toks := tk } ∧ ElemG prog w xs xs.length s.heap.objs.size h' ∧ (∀ b o, s.heap.get? b = some o → h'.get? b = some o)) E)
      PySem.F.called_set.init.plain PySem.F.entry_set_init (check_set_init_1 hTy ?_)) fun r2 s2 hr2 => ?_
    · obtain ⟨⟨oc, od, odt, osl⟩, hol, hcl, nl, hdl⟩ := hl
      dsimp only at hcl hdl
      subst hcl hdl
      have hol' : (s.heap.push (setO led)).get? l = some { cls := .type "list", dict := od, data := .seq items nl, slots := osl } := Heap.get?_push_of_some _ hol
      have ss := PySem.F.sub_list_set
      have sf := PySem.F.sub_list_frozenset
      have ne : (Value.type "list" == Value.type "dict") = false := by decide
      have hl1 : (s.heap.push (setO led)).IsList l items := ⟨_, hol', rfl, nl, rfl⟩
      unfold Builtin.«set.__init__» noKeywords Builtin.Frozenset.updateFrom
      generalize hPI : pyIter = PI
      wp_walk
      subst hPI
      refine wpAny_pyIter_list hl1 ?_
      refine wpAny_bind (wpAny_runValue ?_)
      have hlS : l < s.heap.objs.size := Heap.lt_size hol
      have hz : (s.heap.push (setO led)).objs.size = s.heap.objs.size + 1 := Heap.size_push ..
      have neI : l ≠ (s.heap.push (setO led)).objs.size := by rw [hz]; exact Nat.ne_of_lt (Nat.lt_succ_of_lt hlS)
      have off : s.heap.objs.size ∉ [(s.heap.push (setO led)).objs.size, l] := by
        rw [hz]; simp only [List.mem_cons, List.not_mem_nil, or_false, not_or]
        exact ⟨Nat.ne_of_lt (Nat.lt_succ_self _), Nat.ne_of_gt hlS⟩
      have hsz : xs.length = items.size := by rw [← StrsAre.len_eq hi, Array.length_toList]
      refine set_loopG (xs := xs) ((Walks.list (A := A.in1.in1.in1) (by simp [hh]) _ l neI items).toS) off hsz (by rw [← hsz]; exact room) (fun i v hv => ?_) items.size 0 _ (Nat.zero_add _) ⟨⟨_, Heap.get?_push_size _ rfl, rfl, rfl⟩, hl1.push _⟩ ?_ fun s' hm hS' => ?_
      · obtain ⟨t, e⟩ := SS.strs_at hi i v (by rw [Array.getElem?_toList]; exact hv)
        have hlt : i < xs.length := by rw [hsz]; exact (Array.getElem?_eq_some_iff.mp hv).1
        exact ⟨xs[i], t, List.getElem?_eq_getElem hlt, by rw [e, List.getD_eq_getElem?_getD, List.getElem?_eq_getElem hlt]; rfl⟩
      · exact PyProof.Rows.SetOf_congr ((PyProof.Rows.setObjOf_fresh (knd := PySem.strKind prog w) led).setOf (Heap.get?_push_of_some _ hS) (by unfold scanBound; omega)) (fun _ => by simp) rfl
      · obtain ⟨h', g', d', tk', os'⟩ := s'
        obtain rfl : g' = s.gens := hm.gens
        obtain rfl : d' = s.drawn := hm.drawn
        obtain rfl : os' = s.os := hm.os
        refine wpAny_pure (wpAny_pure ⟨rfl, h', tk', rfl, by rw [hsz]; exact hS', fun b o e => ?_⟩)
        have hb : b < s.heap.objs.size := Heap.lt_size e
        refine hm.heap b o (fun hmem => ?_) (Heap.get?_push_of_some _ (Heap.get?_push_of_some _ e))
        have e' : b = s.heap.objs.size ∨ b = (s.heap.push (setO led)).objs.size := by simpa using hmem
        rcases e' with e' | e'
        · exact Nat.ne_of_lt hb e'
        · rw [hz] at e'; exact Nat.ne_of_lt (Nat.lt_succ_of_lt hb) e'
    · match r2, hr2 with
      | .ok (.ret r), hr2 =>
        obtain ⟨rfl, h', tk, rfl, hS', hk'⟩ := hr2
        repeat (any_goals (first | assumption | wp_step))
        exact h _ _ hS' hk'
      | .error e, hr2 => exact hr2
  | .error e, hr => exact hr
end
section
variable {X : Cx}
def tLenSetG (K : PySem.W.Frag) (ta : TE) : TE := fun σ H Q => ta σ H fun x H1 => ∃ (l : Addr) (xs : List (List Nat)), x = V.ref l ∧ SqL K H1 l (txs xs) ∧ xs.length < 60 ∧ Q (.int (cntT (xs.map S) xs.length : Nat)) H1
theorem pe_lenSetG {a : Expr} {ta : TE} {p p2 q pos : Pos} (hc : X.calm = true) (hg : Gl X "len") (hm : X.mg "len" = none) (hg2 : Gl X "set") (hm2 : X.mg "set" = none) (ha : PE X a ta)
    (na : starEach [a] X.env = (false, eval a X.env) :: starEach [] X.env := by rfl) : PE X (.Call (.Name "len" p) [.Call (.Name "set" p2) [a] [] q] [] pos) (tLenSetG X.K ta) := by
  refine ⟨fun pins s σ H Q I h => ?_⟩
  refine Call_ (ld_blt I hg hm PySem.boot_len (PyProof.Rows.callWith_builtin1 (PyProof.Rows.args_cons ?_ rfl) rfl rfl))
  refine Call_ (ld_blt I hg2 hm2 PyProof.Rows.boot_set (PyProof.Rows.callWith_type1 (PyProof.Rows.args_cons (thn (ha.run pins s σ H _ I h) fun v s1 ⟨x, H1, I1, r1, q1⟩ => PyProof.Rows.args_nil ?_) na) na rfl))
  obtain ⟨l, xs, rfl, hq, h1, q1⟩ := q1
  cases r1
  have e0 : txs xs = (xs.map S).map V.str := by unfold txs; rw [List.map_map]; rfl
  have room : (xs.map S).length < scanBound := by rw [List.length_map]; unfold scanBound; omega
  rw [e0] at hq
  obtain ⟨its, r, pl, hz⟩ := I1.list hq
  refine set_of_listG (I1.ok.hd hc) pl.isList (by simpa using strsAre_of r) room fun h' tk hS hk => ?_
  refine PyProof.Rows.args_nil ?_
  obtain ⟨o, es, ep, t, ho, hex, hd, _, _, _, hf, hn⟩ := hS
  have I2 : Inv X pins σ H1 { s1 with heap := h', toks := tk } := I1.kept hk
  rw [List.length_map] at hn
  have := cntT_le (xs.map S) xs.length
  exact call_len_set ho hex hd hf (by rw [hn]; omega) ⟨.int (cntT (xs.map S) xs.length : Nat), H1, I2.tok _, ⟨_, by rw [hn]⟩, q1⟩
end
end LX
set_option maxHeartbeats 4000000
namespace LX
open PySem PySem.Spec PyProof.Rows L2 C8 SX
def keyT (e : Int × Value) : Str := match e.2 with
  | .str k _ => k
  | _ => Str.empty
def GoodT (w : World) (e : Int × Value) : Prop := ∃ (k : Str) (u : Tok), e.2 = Value.str k u ∧ e.1 = hashStr w k
def SetT (w : World) (h : Heap) (a : Addr) (ks : List Str) : Prop :=
  ∃ o es ep t, h.get? a = some o ∧ o.ExactSet ∧ o.data = .set es ep t ∧ (∀ x ∈ es.toList, GoodT w x) ∧ (es.toList.map keyT).Nodup ∧ (∀ k, k ∈ es.toList.map keyT ↔ k ∈ ks) ∧ es.size ≤ ks.length ∧ t.fits es.size = true ∧ Ris t.place.toList ∧
    (w.params.followText "set-order" = true ∨ t.led = true)
section
variable {P : Program} {w : World} {A : Around} {E : Value → Shared → Prop} {s : Shared} {a : Addr} {ks : List Str}
theorem SetT.stay {h h' : Heap} (R : SetT w h a ks) (k : ∀ o, h.get? a = some o → h'.get? a = some o) : SetT w h' a ks :=
  let ⟨o, es, ep, t, ho, r⟩ := R; ⟨o, es, ep, t, k o ho, r⟩
theorem is_strT (k : Str) (u : Tok) : (PySem.strKind P w).is k (.str k u) = true := by
  show Value.isStrOf k (.str k u) = true
  simp [Value.isStrOf]
theorem goodT_el {l : List (Int × Value)} (g : ∀ x ∈ l, GoodT w x) : ElemsOf (PySem.strKind P w) l := fun x hx => by
  obtain ⟨k, u, e1, e2⟩ := g x hx
  exact ⟨⟨k, by rw [e1]; exact is_strT k u, e2⟩, by rw [e1]; rfl⟩
theorem goodT_is {x : Int × Value} (g : GoodT w x) (k : Str) : (PySem.strKind P w).is k x.2 = true ↔ keyT x = k := by
  obtain ⟨z, u, e, _⟩ := g
  unfold keyT
  rw [e]
  show Value.isStrOf k (.str z u) = true ↔ z = k
  simp [Value.isStrOf]
theorem setT_tail {g : Bool → Sem Unit} (hg : ∀ (b : Bool) (s1 : Shared) (Q' : Unit → Shared → Prop), Q' () s1 → wpAny (model P w) A (g b) Q' E s1)
    {o : Obj} {es es1 : Array (Int × Value)} {ep : Nat} {t t2 : SetTable} (ho : s.heap.get? a = some o) (hex : o.ExactSet) (hd : o.data = .set es ep t) (g1 : ∀ x ∈ es1.toList, GoodT w x) (nd1 : (es1.toList.map keyT).Nodup) (m1 : ∀ k, k ∈ es1.toList.map keyT ↔ k ∈ ks)
    (hk1 : es1.size ≤ ks.length) (room : ks.length < scanBound) (hf2 : t2.fits es1.size = true) (hr : Ris t2.place.toList) (hl : w.params.followText "set-order" = true ∨ t2.led = true) {wasDummy : Bool} {R : Option Bool → Shared → Prop}
    (hR : ∀ h2, Heap.SameBut a s.heap h2 → SetT w h2 a ks → R (some true) { s with heap := h2 }) :
    wpAny (model P w) A (storeSet a es1 t2 >>= fun _ => if (!wasDummy && t2.tooFull) = true then (do
            g (relayAll t2 es1 (SetTable.grown es1.size)).2.2
            storeSet a (relayAll t2 es1 (SetTable.grown es1.size)).1 (relayAll t2 es1 (SetTable.grown es1.size)).2.1; pure (some true))
          else pure (some true)) R E s := by
  have hb1 : es1.size < scanBound := Nat.lt_of_le_of_lt hk1 room
  refine wpAny_bind (wpAny_storeSet_of ho hd ?_ (fits_of_scanBound hb1))
  have o1 := store_at (es' := es1) (t' := t2) ho hd
  have b1 := Heap.SameBut.update s.heap a (Obj.putSet es1 t2)
  by_cases c : (!wasDummy && t2.tooFull) = true
  · rw [if_pos c]
    have pm := relayAll_perm t2 es1 (SetTable.grown es1.size)
    have fit3 := relayAll_fits t2 es1 (SetTable.grown es1.size)
    have ris3 := relayAll_ris t2 es1 (SetTable.grown es1.size)
    have led3 := relayAll_led t2 es1 (SetTable.grown es1.size)
    generalize relayAll t2 es1 (SetTable.grown es1.size) = Z at pm fit3 ris3 led3 ⊢
    obtain ⟨es2, t3, gv⟩ := Z
    dsimp only at pm fit3 ris3 led3 ⊢
    have sz2 : es2.size = es1.size := by rw [← Array.length_toList, pm.length_eq, Array.length_toList]
    refine wpAny_bind (hg _ _ _ ?_)
    refine wpAny_bind (wpAny_storeSet_of o1 rfl ?_ (fits_of_scanBound (by rw [sz2]; exact hb1)))
    have o2 := store_at (es' := es2) (t' := t3) o1 rfl
    refine wpAny_pure (hR _ (b1.trans (Heap.SameBut.update _ a _)) ⟨_, es2, _, t3, o2, hex, rfl, fun x hx => g1 x (pm.mem_iff.mp hx), (pm.map keyT).nodup_iff.mpr nd1, fun k => (pm.map keyT).mem_iff.trans (m1 k), by rw [sz2]; exact hk1, fit3, ris3, ?_⟩)
    exact hl.imp id fun z => led3.trans z
  · rw [if_neg c]
    exact wpAny_pure (hR _ b1 ⟨_, es1, _, t2, o1, hex, rfl, g1, nd1, m1, hk1, hf2, hr, hl⟩)
theorem setT_add {k : Str} {u : Tok} {Q : Bool → Shared → Prop} (R : SetT w s.heap a ks) (room : ks.length + 1 < scanBound) (hQ : ∀ b h2, Heap.SameBut a s.heap h2 → SetT w h2 a (k :: ks) → Q b { s with heap := h2 }) :
    wpAny (model P w) A (setAddHashed a (.str k u) (hashStr w k)) Q E s := by
  obtain ⟨o, es, ep, t, ho, hex, hd, g, nd, hm, hk, hf, hr, hl⟩ := R
  have hkey : (PySem.strKind P w).is k (.str k u) = true := is_strT k u
  have hsc : (Value.str k u).scannable = true := rfl
  have hel : ElemsOf (PySem.strKind P w) es.toList := goodT_el g
  have hb : es.size < scanBound := by omega
  show wpAny (model P w) A (setAddHashed a (.str k u) ((PySem.strKind P w).hash k)) Q E s
  unfold setAddHashed setAddHashedIn
  refine wpAny_holding (wpAny_bind (wpAny_setState_of ho hd hf ?_))
  dsimp only
  rw [byScan_of hsc hb hel]
  simp only [↓reduceIte]
  unfold setAddByScan
  refine wpAny_bind (wpAny_bind (wpAny_rule (wpAny_bind (wpAny_setScan_of hkey ho hd hf hel ?_))))
  cases found : List.findIdx? (fun x => (PySem.strKind P w).is k x.2) es.toList with
  | some j =>
    dsimp only
    obtain ⟨hj, pj, _⟩ := List.findIdx?_eq_some_iff_getElem.mp found
    have there : k ∈ es.toList.map keyT := List.mem_map.mpr ⟨_, List.getElem_mem hj, (goodT_is (P := P) (g _ (List.getElem_mem hj)) k).mp pj⟩
    refine wpAny_pure (wpAny_pure (hQ _ s.heap (Heap.SameBut.refl a s.heap) ⟨o, es, ep, t, ho, hex, hd, g, nd, fun i => ?_, Nat.le_succ_of_le hk, hf, hr, hl⟩))
    rw [hm i, List.mem_cons]
    exact ⟨.inr, fun z => z.elim (fun e => (hm i).mp (e ▸ there)) id⟩
  | none =>
    dsimp only
    have fresh : k ∉ es.toList.map keyT := fun z => by
      obtain ⟨x, hx, q⟩ := List.mem_map.mp z
      have c := List.findIdx?_eq_none_iff.mp found x hx
      rw [(goodT_is (P := P) (g x hx) k).mpr q] at c
      cases c
    have gave : ∀ (b : Bool) {s1 : Shared} {Q' : Unit → Shared → Prop}, Q' () s1 → wpAny (model P w) A (match b with | true => rule "set.scan.the-table-gave-way" | false => pure ()) Q' E s1 :=
      fun b s1 Q' q => by cases b with
        | true => exact wpAny_rule q
        | false => exact wpAny_pure q
    have pm := layNew_perm t es ((PySem.strKind P w).hash k) (.str k u)
    have fit1 := layNew_fits t es ((PySem.strKind P w).hash k) (.str k u)
    have ris1 := layNew_ris t es ((PySem.strKind P w).hash k) (.str k u) hr
    have led1 := layNew_led t es ((PySem.strKind P w).hash k) (.str k u)
    generalize layNew t es ((PySem.strKind P w).hash k) (.str k u) = Z at pm fit1 ris1 led1 ⊢
    obtain ⟨es1, t1, dm, gv⟩ := Z
    dsimp only at pm fit1 ris1 led1 ⊢
    rw [Array.toList_push] at pm
    have pc : es1.toList.Perm (((PySem.strKind P w).hash k, Value.str k u) :: es.toList) := pm.trans (List.perm_append_singleton _ _)
    have pk : (es1.toList.map keyT).Perm (k :: es.toList.map keyT) := pc.map keyT
    have g1 : ∀ x ∈ es1.toList, GoodT w x := fun x hx => by
      rcases List.mem_cons.mp (pc.mem_iff.mp hx) with z | z
      · rw [z]; exact ⟨k, u, rfl, rfl⟩
      · exact g x z
    have nd1 := pk.nodup_iff.mpr (List.nodup_cons.mpr ⟨fresh, nd⟩)
    have m1 : ∀ i, i ∈ es1.toList.map keyT ↔ i ∈ k :: ks := fun i => by rw [pk.mem_iff, List.mem_cons, List.mem_cons, hm i]
    have sz1 : es1.size = es.size + 1 := by rw [← Array.length_toList, pc.length_eq, List.length_cons, Array.length_toList]
    have hk1 : es1.size ≤ (k :: ks).length := by rw [sz1, List.length_cons]; omega
    have led2 : w.params.followText "set-order" = true ∨ t1.led = true := hl.imp id fun z => led1.trans z
    refine wpAny_bind (gave _ ?_)
    by_cases hp : t1.plain = true
    · rw [if_pos hp]
      refine wpAny_bind ?_
      rw [hashByValue_scannable 8 hsc]
      refine wpAny_pure ?_
      refine setT_tail (ks := k :: ks) ?_ ho hex hd g1 nd1 m1 hk1 room ?_ ?_ ?_ ?_
      · exact fun b s1 Q' q => gave b q
      · first | exact SetTable.fits_plain_off fit1 | (split <;> first | exact fit1 | exact SetTable.fits_plain_off fit1)
      · first | exact ris1 | (split <;> exact ris1)
      · first | exact led2 | (split <;> exact led2)
      · exact fun h2 sb r => by dsimp only; exact wpAny_pure (hQ _ h2 sb r)
    · rw [if_neg hp]
      refine wpAny_bind (wpAny_pure ?_)
      simp only [↓reduceIte]
      refine setT_tail (ks := k :: ks) ?_ ho hex hd g1 nd1 m1 hk1 room fit1 ris1 led2 ?_
      · exact fun b s1 Q' q => gave b q
      · exact fun h2 sb r => by dsimp only; exact wpAny_pure (hQ _ h2 sb r)
theorem setT_fresh {h : Heap} : SetT w (h.push { cls := .type "set", dict := none, data := .set #[] 0 (.fresh 0 0 (!w.params.followText "set-order")) }) h.objs.size [] := by
  refine ⟨_, #[], 0, _, Heap.get?_push_size _ rfl, ⟨rfl, rfl, rfl⟩, rfl, fun x hx => by simp at hx, by simp, fun k => by simp, Nat.le_refl _, by rfl, List.Pairwise.nil, ?_⟩
  show _ ∨ (!w.params.followText "set-order") = true
  cases w.params.followText "set-order" with
  | true => exact .inl rfl
  | false => exact .inr rfl
end
section
variable {prog : Program} {w : World} {A : Around} {R : Result → Shared → Prop} {I S : Addr} {fp wr : List Addr} {G : Array GenState → Array GenState → Prop} {n : Nat} {St : Nat → Shared → Prop} {x : Str}
def sgn (x : Str) : List Str := x.cps.toList.map fun c => ⟨#[c]⟩
theorem setT_loop (W : WalksS prog w A.in1 I fp wr G n (SignAt x) St) (off : S ∉ fp) (hl : x.cps.size = n) (room : n + 1 < scanBound) :
    ∀ (k i : Nat) (s : Shared) (ks : List Str), i + k = n → St i s → SetT w s.heap S ks → ks.length = i → (∀ z, z ∈ ks ↔ z ∈ (sgn x).take i) → (∀ s' ks', Moved (S :: wr) G s s' → SetT w s'.heap S ks' → (∀ z, z ∈ ks' ↔ z ∈ sgn x) → ks'.length = n → R (.ok (.ret .none)) s') →
      codeAny (model prog w) A (.builtin "set.update.loop" ⟨[.ref S, .ref I], []⟩) R s
  | 0, i, s, ks, hk, hst, he, hki, hz, hR => by
    obtain rfl : i = n := hk
    refine codeAny_builtin PyProof.Rows.F.entry_set_update_loop ?_
    rw [Around.under_plainId PyProof.Rows.F.plain_set_update_loop _]
    refine wpAny_bind (W.done s _ _ hst fun s' hm => wpAny_pure (hR s' ks (hm.mono fun b hb => List.mem_cons_of_mem _ hb) (he.stay fun o e => hm.heap S o (fun h => off (W.sub _ h)) e) (fun z => ?_) hki))
    rw [hz z, List.take_of_length_le (by unfold sgn; rw [List.length_map, Array.length_toList]; omega)]
  | k + 1, i, s, ks, hk, hst, he, hki, hz, hR => by
    refine codeAny_builtin PyProof.Rows.F.entry_set_update_loop ?_
    rw [Around.under_plainId PyProof.Rows.F.plain_set_update_loop _]
    refine wpAny_bind (W.item i s _ _ (by omega) hst fun v s' hP hst' hm => ?_)
    obtain ⟨c, u, hc, rfl⟩ := hP
    have he2 : SetT w s'.heap S ks := he.stay fun o e => hm.heap S o (fun h => off (W.sub _ h)) e
    show wpAny _ A.in1 (holding [Value.str ⟨#[c]⟩ u] (setAdd S (.str ⟨#[c]⟩ u)) >>= _) _ _ s'
    refine wpAny_bind (wpAny_holding ?_)
    unfold setAdd
    refine wpAny_holding (wpAny_bind ((PySem.strKind prog w).pyHash (k := ⟨#[c]⟩) (is_strT _ _) ?_))
    refine setT_add (s := { s' with toks := s'.toks + 1 }) he2 (by omega) fun b h2 sb he3 => ?_
    refine wpAny_pure ⟨plainId_quiet PyProof.Rows.F.plain_set_update_loop _, setT_loop W off hl room k (i + 1) _ _ (by omega) (W.frame _ s' _ _ hst' (Nat.le_succ _) fun b hb o e => ?_) he3 (by rw [List.length_cons, hki]) (fun z => ?_) fun s2 ks2 hm2 he4 hz2 hn2 => ?_⟩
    · rw [sb.2 b (fun h => off (h ▸ hb))]; exact e
    · have hci : (sgn x)[i]? = some ⟨#[c]⟩ := by unfold sgn; rw [List.getElem?_map, Array.getElem?_toList, hc]; rfl
      rw [List.mem_cons, hz z, List.take_succ, hci, List.mem_append]
      show z = _ ∨ z ∈ (sgn x).take i ↔ z ∈ (sgn x).take i ∨ z ∈ [(⟨#[c]⟩ : Str)]
      rw [List.mem_singleton]
      exact Or.comm
    · refine hR s2 ks2 (Moved.trans W.gtrans ((hm.mono fun b hb => List.mem_cons_of_mem _ hb).then_heap (Nat.le_succ _) fun b o hb e => ?_) hm2) he4 hz2 hn2
      rw [sb.2 b (fun h => hb (by rw [h]; exact List.mem_cons_self))]; exact e
end
section
variable {prog : Program} {w : World} {A : Around} {E : Value → Shared → Prop} {s : Shared}
theorem set_of_text {x : Str} {t : Tok} {Q : Value → Shared → Prop} (hh : A.handled = none) (room : x.cps.size + 1 < scanBound)
    (h : ∀ (h' : Heap) (u : Nat) ks, SetT w h' s.heap.objs.size ks → (∀ z, z ∈ ks ↔ z ∈ sgn x) → ks.length = x.cps.size → (∀ b o, s.heap.get? b = some o → h'.get? b = some o) → Q (.ref s.heap.objs.size) { s with heap := h', toks := u }) :
    wpAny (model prog w) A (call (.type "set") [.str x t]) Q E s := by
  obtain ⟨c, tl, hmro⟩ := PySem.F.called_set.mro
  have hmade := PySem.F.called_set.made
  have hsub := PySem.F.called_set.sub
  refine wpAny_call (codeAny_of_tree ?_)
  refine wpAny_pure ⟨Code.quiet_builtin _ (by decide +kernel), codeAny_builtin PySem.F.entry_type_call ?_⟩
  rw [Around.under_plain (weight_type_call_type "set" [.str x t] []) rfl]
  have nt := PySem.F.called_set.notType
  have cc := PySem.F.called_set.canCreate
  have ct := PySem.F.typeCall_set_1 (.str x t)
  repeat (any_goals (first | assumption | wp_step))
  refine codeAny_mono (code_set_led1 (.str x t) (E := E) (Q₁ := fun obj s1 => obj = .ref s.heap.objs.size ∧ s1 = { s with heap := s.heap.push { cls := .type "set", dict := none, data := .set #[] 0 (.fresh 0 0 (!w.params.followText "set-order")) } }) ⟨rfl, rfl⟩) fun r s1 hr => ?_
  match r, hr with
  | .ok (.ret obj), hr =>
    obtain ⟨rfl, rfl⟩ := hr
    have f0 : SetT w _ s.heap.objs.size [] := setT_fresh (w := w) (h := s.heap)
    generalize (!w.params.followText "set-order") = led at f0 ⊢
    have hS : (s.heap.push (setO led)).get? s.heap.objs.size = some (setO led) := Heap.get?_push_size _ rfl
    have hTy : Shared.TypeIs { s with heap := s.heap.push (setO led) } (.ref s.heap.objs.size) "set" := ⟨_, hS, rfl⟩
    have li := PySem.F.called_set.init.lookup
    have bi := PySem.F.called_set.init.bind (.ref s.heap.objs.size)
    repeat (any_goals (first | assumption | wp_step))
    refine codeAny_mono (codeAny_call_builtin (R := wants (fun r s2 => r = .none ∧ ∃ h' u ks, s2 = { s with heap := h', toks := u } ∧ SetT w h' s.heap.objs.size ks ∧ (∀ z, z ∈ ks ↔ z ∈ sgn x) ∧ ks.length = x.cps.size ∧ (∀ b o, s.heap.get? b = some o → h'.get? b = some o)) E)
      PySem.F.called_set.init.plain PySem.F.entry_set_init (check_set_init_1 hTy ?_)) fun r2 s2 hr2 => ?_
    · have ne : (Value.type "str" == Value.type "dict") = false := by decide
      have ss := PySem.F.sub_str_set
      have sf := PySem.F.sub_str_frozenset
      unfold Builtin.«set.__init__» noKeywords Builtin.Frozenset.updateFrom
      generalize hPI : pyIter = PI
      wp_walk
      subst hPI
      refine wpAny_pyIter_str fun o St hW hst => ?_
      refine wpAny_bind (wpAny_runValue ?_)
      have hz : (s.heap.push (setO led)).objs.size = s.heap.objs.size + 1 := Heap.size_push ..
      have off : s.heap.objs.size ∉ [(s.heap.push (setO led)).objs.size] := by
        rw [hz, List.mem_singleton]
        exact Nat.ne_of_lt (Nat.lt_succ_self _)
      refine setT_loop (n := x.cps.size) (R := _) ((hW A.in1.in1.in1 (by simp [hh])).toS) off rfl room x.cps.size 0 _ [] (Nat.zero_add _) hst (f0.stay fun o' e => Heap.get?_push_of_some _ e) rfl (fun z => by simp) fun s' ks' hm hS' hz' hn' => ?_
      obtain ⟨h', g', d', tk', os'⟩ := s'
      obtain rfl : g' = s.gens := hm.gens
      obtain rfl : d' = s.drawn := hm.drawn
      obtain rfl : os' = s.os := hm.os
      refine wpAny_pure (wpAny_pure ⟨rfl, h', tk', ks', rfl, hS', hz', hn', fun b o' e => ?_⟩)
      have hb : b < s.heap.objs.size := Heap.lt_size e
      refine hm.heap b o' (fun hmem => ?_) (Heap.get?_push_of_some _ (Heap.get?_push_of_some _ e))
      have e' : b = s.heap.objs.size ∨ b = (s.heap.push (setO led)).objs.size := by simpa using hmem
      rcases e' with e' | e'
      · exact Nat.ne_of_lt hb e'
      · rw [hz] at e'; exact Nat.ne_of_lt (Nat.lt_succ_of_lt hb) e'
    · match r2, hr2 with
      | .ok (.ret r), hr2 =>
        obtain ⟨rfl, h', u, ks, rfl, hS', hz', hn', hk'⟩ := hr2
        repeat (any_goals (first | assumption | wp_step))
        exact h _ _ _ hS' hz' hn' hk'
      | .error e, hr2 => exact hr2
  | .error e, hr => exact hr
theorem sorted_setX {a : Addr} {ks : List Str} {Q : Value → Shared → Prop} (R : SetT w s.heap a ks) (hh : A.handled = none) (h64 : ks.length < 64)
    (hQ : ∀ s' p (out : Array Value) (c : Nat) (ss : List Str), (∀ b o, s.heap.get? b = some o → s'.heap.get? b = some o) → s'.gens = s.gens → s'.os = s.os → s.heap.objs.size ≤ p → s'.heap.get? p = some (seqObj "list" out c) →
      StrsAre out.toList ss → sortedS ss = true → ss.Nodup → (∀ k, k ∈ ss ↔ k ∈ ks) → ss.length ≤ ks.length → Q (.ref p) s') : wpAny (model prog w) A (call (.builtin "sorted") [.ref a]) Q E s := by
  obtain ⟨o, es, ep, t, ho, hex, hd, g, nd, hm, hk, hf, hr, hl⟩ := R
  refine Calls.call_function_entry kind_sorted plain_sorted entry_sorted (args_sorted1 _) ?_
  unfold Builtin.«sorted»
  refine wpAny_bind (m := checkCount "sorted" 1 1 _) (wpAny_pure (wpAny_bind (collect_set (A := A.in1) hh ⟨o, ho, hex.1, hd⟩ hf (by unfold scanBound; omega) hr hl fun s1 vs k1 hz g1 o1 pm => ?_)))
  have hvl : vs.length ≤ ks.length := by rw [pm.length_eq, List.length_map, Array.length_toList]; exact hk
  have isT : ∀ v ∈ vs, ∃ (k : Str) (u : Tok), v = Value.str k u := fun v hv => by
    obtain ⟨e, he, q⟩ := List.mem_map.mp (pm.mem_iff.mp hv)
    obtain ⟨k, u, h1, _⟩ := g e he
    exact ⟨k, u, by rw [← q]; exact h1⟩
  have hS : StrsAre vs (vs.map fun v => keyT (0, v)) := by
    clear pm hvl
    induction vs with
    | nil => exact .nil
    | cons v r ih =>
      obtain ⟨k, u, rfl⟩ := isT v List.mem_cons_self
      exact .cons _ _ (ih fun x hx => isT x (List.mem_cons_of_mem _ hx))
  have pk : (vs.map fun v => keyT (0, v)).Perm (es.toList.map keyT) := by
    have q := pm.map fun v => keyT (0, v)
    rw [List.map_map] at q
    exact q
  refine wpAny_bind (wpAny_newList ?_ (by rw [sizeLine_eq]; omega))
  have hoL : (s1.heap.push (seqObj "list" vs.toArray 0)).get? s1.heap.objs.size = some (seqObj "list" vs.toArray 0) := Heap.get?_push_size _ rfl
  refine wpAny_bind (wpAny_holding (wpAny_call_entry slot_list_sort ⟨_, hoL, rfl⟩ entry_list_sort
    (list_sort_treeK strKind_oneLt (s := { s1 with heap := s1.heap.push (seqObj "list" vs.toArray 0) }) hoL hS.keysOf (fun v1 v2 rest e => keyKind_strs (by rw [← e]; exact hS)) (by omega) fun st' hp hs => ⟨_, rfl, ?_⟩) (args_list_sort _)))
  obtain ⟨ys, y1, y2, y3⟩ := sorted_out_str hS hp hs
  obtain ⟨c, hc⟩ := sortedHeap_at (vs := vs) (out := (arrOf st').map (·.2)) hoL
  have pn := y2.trans pk
  refine wpAny_pure ⟨_, rfl, hQ _ s1.heap.objs.size _ c ys (fun b u e => ?_) g1 o1 hz hc y1 y3 (pn.nodup_iff.mpr nd) (fun k => by rw [pn.mem_iff, hm k]) (by rw [pn.length_eq, List.length_map, Array.length_toList]; exact hk)⟩
  have q := k1 b u e
  have hlt := Heap.lt_size q
  show (sortedHeap (s1.heap.push (seqObj "list" vs.toArray 0)) s1.heap.objs.size vs _).get? b = some u
  rw [sortedHeap_old (Nat.ne_of_lt hlt) (by rw [size_push']; exact Nat.lt_succ_of_lt hlt)]
  exact Heap.get?_push_of_some _ q
end
section
variable {X : Cx}
theorem singles_of : ∀ {ss : List Str} {l : List Nat}, (∀ k ∈ ss, ∃ c ∈ l, k = S [c]) → ∃ ds : List Nat, ss = ds.map fun d => S [d]
  | [], _, _ => ⟨[], rfl⟩
  | k :: ss, l, h => by
    obtain ⟨c, _, rfl⟩ := h k List.mem_cons_self
    obtain ⟨ds, rfl⟩ := singles_of (ss := ss) (l := l) fun x hx => h x (List.mem_cons_of_mem _ hx)
    exact ⟨c :: ds, rfl⟩
theorem sortX_run {pins : List (Addr × Obj)} {σ : L2.St} {H1 : Hp} {Q : VK} {s1 : Shared} {a : Addr} {ks : List Str} {l : List Nat} (hc : X.calm = true) (I2 : Inv X pins σ H1 s1) (hS : SetT X.w s1.heap a ks) (hz : ∀ z, z ∈ ks ↔ z ∈ sgn (S l)) (hn : ks.length = (S l).cps.size) (hl : l.length < 60)
    (q1 : ∀ (p : Addr) (ds : List Nat), H1 p = none → ds.Pairwise (· < ·) → (∀ c, c ∈ ds ↔ c ∈ l) → Q (.ref p) (upd H1 p (.lst (ds.map fun d => .str (S [d]))))) : wpAny (model X.prog X.w) X.A (call (.builtin "sorted") [.ref a]) (EP X pins σ Q) X.xe s1 := by
  have hsz : (S l).cps.size = l.length := by simp [S]
  refine sorted_setX hS (I2.ok.hd hc) (by rw [hn, hsz]; omega) fun s' p out c ss k2 g2 o2 hp ho hS2 srt nd mem hle => ?_
  have hmem : ∀ k, k ∈ ss ↔ ∃ c ∈ l, k = S [c] := fun k => by
    rw [mem k, hz k]
    unfold sgn
    rw [List.mem_map]
    constructor
    · rintro ⟨c, hc, rfl⟩; exact ⟨c, by simpa [S] using hc, rfl⟩
    · rintro ⟨c, hc, rfl⟩; exact ⟨c, by simpa [S] using hc, rfl⟩
  obtain ⟨ds, rfl⟩ := singles_of fun k hk => (hmem k).mp hk
  have ndd : ds.Nodup := List.Pairwise.of_map (fun d => S [d]) (fun a b hne e => hne (by rw [e])) nd
  have hn2 : H1 p = none := I2.hok.fresh hp
  have hlen : ((ds.map fun d => S [d]).map V.str).length ≤ sizeLine := by
    rw [List.length_map, List.length_map, sizeLine_eq]
    rw [List.length_map, hn, hsz] at hle
    omega
  have J : Inv X pins σ (upd H1 p (.lst ((ds.map fun d => S [d]).map V.str))) { s1 with heap := s'.heap, gens := s'.gens, drawn := s'.drawn, toks := s'.toks } :=
    I2.call (ch := []) (Un.laid k2 hp hn2) (I2.hok.laid k2 hp ⟨hlen, out.toList, c, vals_of_strs hS2, ho⟩) (by rw [g2]; exact I2.bare) (fun _ z => nomatch z)
  have e : s' = { s1 with heap := s'.heap, gens := s'.gens, drawn := s'.drawn, toks := s'.toks } := by
    cases s'; cases s1; cases o2; rfl
  rw [e]
  have eL : ((ds.map fun d => S [d]).map V.str) = ds.map fun d => V.str (S [d]) := by rw [List.map_map]; rfl
  rw [eL] at J
  exact ⟨.ref p, _, J, rfl, q1 p ds hn2 (strict_of (sorted_singles srt) ndd) fun c => ⟨fun hc => by
    obtain ⟨e, he, ec⟩ := (hmem (S [c])).mp (List.mem_map.mpr ⟨c, hc, rfl⟩)
    have : c = e := by simpa [S] using ec
    rw [this]; exact he, fun hc => by
    obtain ⟨d, hd, ed⟩ := List.mem_map.mp ((hmem (S [c])).mpr ⟨c, hc, rfl⟩)
    have : d = c := by simpa [S] using ed
    rw [← this]; exact hd⟩⟩
def tSortSet (ta : TE) : TE := fun σ H Q => ta σ H fun x H1 => ∃ l : List Nat, x = .str (S l) ∧ l.length < 60 ∧ ∀ (p : Addr) (ds : List Nat), H1 p = none → ds.Pairwise (· < ·) → (∀ c, c ∈ ds ↔ c ∈ l) → Q (.ref p) (upd H1 p (.lst (ds.map fun d => .str (S [d]))))
theorem pe_sortSet {a : Expr} {ta : TE} {p p2 q pos : Pos} (hc : X.calm = true) (hg : Gl X "sorted") (hm : X.mg "sorted" = none) (hg2 : Gl X "set") (hm2 : X.mg "set" = none) (ha : PE X a ta)
    (na : starEach [a] X.env = (false, eval a X.env) :: starEach [] X.env := by rfl) : PE X (.Call (.Name "sorted" p) [.Call (.Name "set" p2) [a] [] q] [] pos) (tSortSet ta) := by
  refine ⟨fun pins s σ H Q I h => ?_⟩
  refine Call_ (ld_blt I hg hm PyProof.Rows.boot_sorted (PyProof.Rows.callWith_builtin1 (PyProof.Rows.args_cons ?_ rfl) rfl rfl))
  refine Call_ (ld_blt I hg2 hm2 PyProof.Rows.boot_set (PyProof.Rows.callWith_type1 (PyProof.Rows.args_cons (thn (ha.run pins s σ H _ I h) fun v s1 ⟨x, H1, I1, r1, q1⟩ => PyProof.Rows.args_nil ?_) na) na rfl))
  obtain ⟨l, rfl, hl, q1⟩ := q1
  obtain ⟨t, rfl⟩ := r1
  have hsz : (S l).cps.size = l.length := by simp [S]
  refine set_of_text (I1.ok.hd hc) (by rw [hsz]; unfold scanBound; omega) fun h' u ks hS hz hn hk => ?_
  refine PyProof.Rows.args_nil ?_
  exact sortX_run (s1 := { s1 with heap := h', toks := u }) hc (I1.kept hk) hS hz hn hl q1
end
end LX
set_option maxHeartbeats 4000000
namespace LX
open PySem PySem.Spec PyProof.Rows L2 C8 SX
section
variable {prog : Program} {w : World} {A : Around} {E : Value → Shared → Prop} {s : Shared} {K : PySem.W.Frag} {a C f : Addr} {ox : Obj} {od : Option Obj} {u : Value} {T id : String}
theorem rc_own_second (hu : A.units < cLine) (X : K.In s.heap) (I : PySem.W.InstAt s.heap a ox C od) (hT : s.TypeIs u T) (h1 : oneThing? .Eq u (.ref a) = none) (hsub : PySem.W.subIn K (.ref C) (.type T) = some false) (sl : Slot T (cmpInfo .Eq).2.1 id)
    (hs : PySem.W.findIn K (.ref C) "__eq__" = some (some (.ref f))) (hf : PySem.W.isFn K (.ref f) = true) {Q : Value → Shared → Prop}
    (hc1 : ∀ Q' : Value → Shared → Prop, Q' .notImplemented s → wpAny (model prog w) A (call (.builtin id) [u, .ref a]) Q' E s)
    (hc2 : wpAny (model prog w) A (call (.ref f) [.ref a, u]) (PySem.W.CmpBack Q) E s) : wpAny (model prog w) A (richCompare .Eq u (.ref a)) Q E s := by
  have two : wpAny (model prog w) A (tryCompare (.ref a) (cmpInfo .Eq).2.2 u) (fun r s' => ∃ v, r = some v ∧ Q v s') E s := by
    unfold tryCompare
    refine wpAny_bind (PySem.W.ifBound_K X I hs hf (wpAny_mono hc2 (fun v s' hv => ?_) fun _ _ e => e))
    cases v <;> first | exact hv.elim | exact wpAny_pure ⟨_, rfl, hv⟩
  unfold richCompare
  simp only [h1]
  refine wpAny_holding (wpAny_bind (wpAny_cRoomFor hu ?_))
  refine wpAny_bind (wpAny_typeOf hT (wpAny_bind (I.type.here ?_)))
  rw [show (Value.type T != Value.ref C) = true from rfl]
  simp only [if_true]
  refine wpAny_bind ((PySem.W.looks_subIn X hsub).here ?_)
  simp only [Bool.false_eq_true, if_false, Bool.not_false, if_true]
  refine wpAny_bind (m := tryCompare u _ (.ref a)) (wpAny_tryCompare_declines hT sl (hc1 _ ⟨rfl, ?_⟩))
  refine wpAny_bind (m := tryCompare (.ref a) _ u) (wpAny_mono two (fun r s' z => ?_) fun _ _ e => e)
  obtain ⟨v, rfl, q⟩ := z
  exact wpAny_pure q
theorem none_declines {Q : Value → Shared → Prop} (h : Q .notImplemented s) : wpAny (model prog w) A (call (.builtin "NoneType.__eq__") [.none, .ref a]) Q E s :=
  call_gives F.slot_NoneType_eq rfl F.entry_NoneType_eq (F.args_NoneType_eq_2 _ _) (PySem.SeqAt.NoneType___eq___none_ref_0 a) h
theorem str_declines {dx : Addr} {x : Str} {t : Tok} {Q : Value → Shared → Prop} (hx : s.heap.get? a = some (PySem.W.instObj C dx)) (h : Q .notImplemented s) : wpAny (model prog w) A (call (.builtin "str.__eq__") [.str x t, .ref a]) Q E s := by
  refine wpAny_call (codeAny_call_builtin F.slot_str_eq.plain F.entry_str_eq (F.slot_str_eq.check _ _ _ _ _ _ _ _ rfl (F.args_str_eq_2 _ _) ?_))
  obtain ⟨hp, g, d, tk, os⟩ := s
  wp_walk using wpAny_load hx
  exact h
theorem list_declines {dx l : Addr} {items : Array Value} {Q : Value → Shared → Prop} (hl : s.heap.IsList l items) (X : K.In s.heap) (hx : s.heap.get? a = some (PySem.W.instObj C dx)) (hsub : PySem.W.subIn K (.ref C) (.type "list") = some false) (h : Q .notImplemented s) :
    wpAny (model prog w) A (call (.builtin "list.__eq__") [.ref l, .ref a]) Q E s := by
  obtain ⟨⟨cls, dd, data, sl⟩, ho, hc, n, hd⟩ := id hl
  simp only at hc hd
  subst hc hd
  refine wpAny_call (codeAny_call_builtin F.slot_list_eq.plain F.entry_list_eq (F.slot_list_eq.check _ _ _ _ _ _ _ _ ⟨_, ho, rfl⟩ (F.args_list_eq_2 _ _) ?_))
  obtain ⟨hp, g, d, tk, os⟩ := s
  wp_walk using PySem.AutoSeq1.wpAny_loadPart' hx
  refine (PySem.W.looks_subIn X hsub).here ?_
  wp_walk
  exact h
theorem in_tuple_none {l : Addr} {items : Array Value} {x : Value} {Q : Value → Shared → Prop} (J : Shared → Prop) (hl : s.heap.IsTuple l items) (h0 : J s)
    (turn : ∀ y s', y ∈ items → J s' → wpAny (model prog w) A.in1 (eqBool y x) (fun b s2 => b = false ∧ J s2) E s') (fin : ∀ s', J s' → Q (.bool false) s') : wpAny (model prog w) A (compareOp .In x (.ref l)) Q E s := by
  obtain ⟨⟨cls, dd, data, sl⟩, ho, hc, n, hd⟩ := id hl
  simp only at hc hd
  subst hc hd
  show wpAny _ A (do return .bool (← contains (.ref l) x)) Q E s
  refine wpAny_bind (wpAny_contains_slot ⟨_, ho, rfl⟩ F.slot_tuple_contains (wpAny_mono (Q := fun v s' => v = .bool false ∧ J s') (wpAny_call (codeAny_call_builtin F.slot_tuple_contains.plain F.entry_tuple_contains
    (F.slot_tuple_contains.check _ _ _ _ _ _ _ _ ⟨_, ho, rfl⟩ (F.args_tuple_contains_2 _ _) ?_))) (fun v s' hv => ?_) fun _ _ e => e))
  · obtain ⟨hp, g, d, tk, os⟩ := s
    wp_walk using PySem.AutoSeq1.wpAny_loadPart' ho, PySem.MeetsSeq2.wpAny_forIn_array _ (fun (rest : List Value) (b : Option PySem.Fin × Unit) (s' : Shared) => b.1 = none ∧ J s' ∧ ∀ y, y ∈ rest → y ∈ items) _
    case turn =>
      rintro y rest b s' ⟨hb, hJ, hmem⟩
      refine wpAny_bind (wpAny_mono (turn y s' (hmem y (List.mem_cons_self ..)) hJ) (fun r s2 z => ?_) fun _ _ e => e)
      obtain ⟨rfl, hJ2⟩ := z
      wp_walk
      exact ⟨rfl, hJ2, fun z hz => hmem z (List.mem_cons_of_mem _ hz)⟩
    case fin =>
      rintro ⟨b1, b2⟩ s' ⟨hb, hJ, -⟩
      simp only at hb
      subst hb
      wp_walk
      exact ⟨rfl, hJ⟩
    case h => exact ⟨rfl, h0, fun y hy => by simpa using hy⟩
  · obtain ⟨rfl, hJ⟩ := hv
    exact wpAny_truthy_bool (wpAny_pure (fin s' hJ))
end
section
variable {X : Cx} {k j : Nat} {C : Addr} {sp : Sp}
def Plain0 (H : Hp) (z : V) : Prop := (∃ x, z = .str x) ∨ z = .non ∨ ∃ l xs, z = .ref l ∧ H l = some (.lst xs)
structure NotB (K : PySem.W.Frag) (C : Addr) : Prop where
  str : PySem.W.subIn K (.ref C) (.type "str") = some false
  non : PySem.W.subIn K (.ref C) (.type "NoneType") = some false
  lst : PySem.W.subIn K (.ref C) (.type "list") = some false
def rInOwn (K : PySem.W.Frag) (C : Addr) (sp : Sp) : R2 := fun x y H Q => ∃ a dx fs p xs, x = .ref a ∧ y = .ref p ∧ H a = some (.ins C dx fs) ∧ SqT K H p xs ∧ (∀ z ∈ xs, Plain0 H z ∧ ∀ R : VK, R (.bl false) H → sp [.ref a, z] H R C8.E0) ∧ Q (.bl false) H
theorem vals_mem : ∀ {xs : List V} {us : List Value}, Vals xs us → ∀ u ∈ us, ∃ x ∈ xs, RelV x u
  | _, _, .nil, _, h => nomatch h
  | _, _, .cons r t, u, h => by
    rcases List.mem_cons.mp h with e | h
    · rw [e]; exact ⟨_, List.mem_cons_self, r⟩
    · obtain ⟨x, hx, r⟩ := vals_mem t u h
      exact ⟨x, List.mem_cons_of_mem _ hx, r⟩
theorem op_inOwn (b : NotB X.K C) (c : Met X.prog X.w X.K X.mg X.base k C "__eq__" sp []) (hr : Room j X.A) (hk : k + 1 ≤ j) : OpR X (compareOp .In) (rInOwn X.K C sp) := by
  intro pins s σ H x y v u Q I rx ry h
  obtain ⟨a, dx, fs, p, xs, rfl, rfl, ha, hp, all, q⟩ := h
  cases rx
  cases ry
  obtain ⟨its, r, pl, hz⟩ := I.tuple hp
  refine in_tuple_none (J := fun s' => Inv X pins σ H s') pl I (fun z s' hz J => ?_) (fun s' J => ⟨.bl false, H, J, rfl, q⟩)
  obtain ⟨zv, hzm, rz⟩ := vals_mem r z (by simpa using hz)
  obtain ⟨pz, sz⟩ := all zv hzm
  obtain ⟨mA, O, _⟩ := ins_get J.hok ha
  have hobj := O.obj
  obtain ⟨od, O, _⟩ := O.look
  have hu : (X.A.in1).units < cLine := hu_of hr
  obtain ⟨f, hs, hf, hw⟩ := met_runV (A := X.A.in1) (Q := PySem.W.CmpBack fun v s2 => v = .bool false ∧ Inv X pins σ H s2) c (hr.mono hk).in1 rfl J rz (sz (fun v H' => v = .bl false ∧ H' = H) ⟨rfl, rfl⟩) (fun v z H' s' I' rz q => by
    obtain ⟨rfl, rfl⟩ := q
    cases rz
    exact ⟨rfl, I'⟩)
  have back : wpAny (model X.prog X.w) X.A.in1 (richCompare .Eq z (.ref a)) (fun v s2 => v = .bool false ∧ Inv X pins σ H s2) X.xe s' := by
    rcases pz with ⟨t, rfl⟩ | rfl | ⟨l, ys, rfl, hl⟩
    · obtain ⟨tk, rfl⟩ := rz
      exact rc_own_second (u := .str t tk) (T := "str") hu J.kIn O rfl rfl b.str F.slot_str_eq hs hf (fun Q' h' => str_declines hobj h') hw
    · cases rz
      exact rc_own_second (u := .none) (T := "NoneType") hu J.kIn O rfl rfl b.non F.slot_NoneType_eq hs hf (fun Q' h' => none_declines h') hw
    · cases rz
      obtain ⟨its2, r2, pl2, _⟩ := J.list (SqL.of hl)
      have hT : s'.TypeIs (.ref l) "list" := let ⟨o, e1, e2, _⟩ := pl2.isList; ⟨o, e1, e2⟩
      exact rc_own_second hu J.kIn O hT rfl b.lst F.slot_list_eq hs hf (fun Q' h' => list_declines pl2.isList J.kIn hobj b.lst h') hw
  unfold eqBool
  refine wpAny_holding ?_
  refine wpAny_ite_split (fun hab => ?_) (fun _ => ?_)
  · exfalso
    have e := eq_of_beq hab
    subst e
    rcases pz with ⟨t, rfl⟩ | rfl | ⟨l, ys, rfl, hl⟩
    · obtain ⟨tk, e⟩ := rz; cases e
    · cases rz
    · cases rz; rw [ha] at hl; cases hl
  have go : wpAny (model X.prog X.w) X.A.in1 (richCompare .Eq z (.ref a) >>= truthOfDropped) (fun b s2 => b = false ∧ Inv X pins σ H s2) X.xe s' := by
    refine wpAny_bind (wpAny_mono back (fun v s2 hv => ?_) fun _ _ e => e)
    obtain ⟨rfl, I2⟩ := hv
    exact wpAny_truthy_bool ⟨rfl, I2⟩
  rcases pz with ⟨t, rfl⟩ | rfl | ⟨l, ys, rfl, hl⟩
  · obtain ⟨tk, rfl⟩ := rz; exact go
  · cases rz; exact go
  · cases rz; exact go
def tMakeSL (i : Nat) (C : Addr) (sp : Sp) (E : L2.St → XK) (t : TA) : TE := fun σ H Q => σ[i]? = some (some (.ref C)) ∧ tMakeS C sp E t σ H Q
theorem pe_mkXL {i : Nat} {x n : Str} {p pos : Pos} {e : Expr} {es : List Expr} {t : TA} {W : WX} (c : MakX X.prog X.w X.K X.mg X.base k n C sp) (tk : Takes X W) (hr : Room j X.A) (hk : k + 1 ≤ j) (hN : X.N[i]? = some x) (hv : Vis X.env.scope x) (ha : PA X (e :: es) t)
    (hd : (x == ("__debug__" : Str)) = false := by decide) (hcd : (x == ("__classdict__" : Str)) = false := by decide)
    (he : starEach (e :: es) X.env = (false, eval e X.env) :: starEach es X.env := by rfl) (hpl : (backTo pos (starEach es X.env)).any (·.1) = false := by rfl) : PE X (.Call (.Name x p) (e :: es) [] pos) (tMakeSL i C sp (WE W) t) := by
  obtain ⟨f, fd, ps, M, F, hm, hb⟩ := c.ex
  refine ⟨fun pins s σ H Q I h => ?_⟩
  obtain ⟨hs, h⟩ := h
  refine wpAny_Call_Name_kw (thn ((pe_var (pos := p) hN hv hd hcd).run pins s σ H (fun v H1 => v = .ref C ∧ H1 = H) I ⟨.ref C, hs, rfl, rfl⟩) fun u s0 ⟨v, H0, I0, r0, ev, eH⟩ => ?_)
  subst ev
  rw [eH] at I0
  obtain rfl : u = Value.ref C := r0
  refine PySem.W.callWith_K (h₀ := X.base) I.ok.mod.kin M.kp (thn (ha.run pos pins s0 σ H _ I0 h) fun us s1 ⟨vs, H1, I1, r, q⟩ => ⟨I1.kIn, ?_⟩) he hpl
  have hq := q (s1.heap.objs.size + 1) s1.heap.objs.size (I1.hok.fresh (Nat.le_succ _)) (I1.hok.fresh (Nat.le_refl _)) (Nat.ne_of_lt (Nat.lt_succ_self _))
  have I2 := Inv.made (C := C) I1
  have r2 : Vals (V.ref (s1.heap.objs.size + 1) :: vs) (Value.ref (s1.heap.objs.size + 1) :: us) := .cons rfl r
  have hl : (Value.ref (s1.heap.objs.size + 1) :: us ++ []).length = ps.length := by
    have e := r2.length
    rw [F.len _ _ _ _ hq] at e
    rw [List.append_nil]
    exact e.symm
  have hb2 := hb _ (Value.ref (s1.heap.objs.size + 1) :: us) I2.kIn hl
  rw [List.append_nil] at hb2
  refine wpAny_call (make_map (f := f) I1.kIn M.makes M.init (beq_iff_eq.mp M.fn) (codeAny_mono (F.run _ X.stack _ _ ⟨Value.ref (s1.heap.objs.size + 1) :: us, []⟩ (Value.ref (s1.heap.objs.size + 1) :: us) _ _ (WE W σ) ((hr.mono hk).make C us [])
    (I2.env0.make C us []) hb2 r2 hq) fun r s' hq' => ?_))
  cases r with
  | error e => exact passAt tk σ pins _ _ e s' I2 hq'
  | ok fl =>
    cases fl with
    | ret u =>
      obtain ⟨v, H', I3, rv, ev, q3⟩ := I2.after hq'
      subst ev
      exact ⟨rv, ⟨V.ref (s1.heap.objs.size + 1), H', I3, rfl, q3⟩⟩
    | next => exact False.elim hq'
    | brk => exact False.elim hq'
    | cont => exact False.elim hq'
end
end LX
set_option maxHeartbeats 2000000
namespace Toy
open PySem L2 C8 SX LX
local macro_rules | `(tactic| walk_at "c") => `(tactic| refine And.intro (by first | (show (0 : Int) < _; omega) | exact Or.inr ⟨by decide, by decide⟩ | exact Or.inl ⟨by decide, by decide⟩ | (exact ⟨by omega, by omega⟩)) ?_)
local macro_rules | `(tactic| walk_at "s1") => `(tactic| first | refine ⟨_, rfl, ?_⟩ | refine ⟨_, _, rfl, rfl, ?_⟩ | refine .inl ⟨_, rfl, ?_⟩ | walk_at "c")
local macro_rules | `(tactic| walk_at "ix") => `(tactic| refine ⟨_, _, _, _, rfl, rfl, SqL.of (by first | assumption | exact upd_same), rfl, ?_⟩)
local macro_rules | `(tactic| walk_at "s") => `(tactic| repeat (walk_at "s1"))
def top (i : Nat) : Stmt := PySem.Challenge.pw_allrows_k04_clear_changes.main.body.getD i (.Pass ⟨0, 0, 0, 0⟩)
structure BT (mg : Str → Option Value) : Prop where
  m_int : mg "int" = none
  m_len : mg "len" = none
  m_abs : mg "abs" = none
  m_str : mg "str" = none
  m_list : mg "list" = none
  m_tuple : mg "tuple" = none
  m_isinstance : mg "isinstance" = none
  m_all : mg "all" = none
  m_zip : mg "zip" = none
  m_range : mg "range" = none
  m_max : mg "max" = none
  m_min : mg "min" = none
  m_repr : mg "repr" = none
  m_sorted : mg "sorted" = none
  m_set : mg "set" = none
  m_enumerate : mg "enumerate" = none
  m_dict : mg "dict" = none
def sgs : List (List Nat) := [[97, 98], [97], [97, 98, 99], [120, 122]]
def Menu (sg : List Nat) : Prop := sg ∈ sgs
def Ov (sg l : List Nat) : Prop := ∀ c ∈ l, c ∈ sg
def Ims (sg : List Nat) (ims : List (List Nat)) (m : Nat) : Prop := ims.length = sg.length ∧ ∀ l ∈ ims, Ov sg l ∧ l.length ≤ m
def img (sg : List Nat) (ims : List (List Nat)) (c : Nat) : List Nat := ims.getD (sg.idxOf c) []
def app (sg : List Nat) (ims : List (List Nat)) (l : List Nat) : List Nat := l.flatMap (img sg ims)
section
variable {P : Program} {w : World} {K : PySem.W.Frag} {mg : Str → Option Value} {base : Heap}
abbrev s_choose : Stmt := top 23
abbrev n_choose : List Str := ["box", "many", "digit", "raw"]
theorem sc_choose : FnScope n_choose ["box", "many"] (fnScope s_choose) := fnScope_by (by decide +kernel)
def spChoose : Sp := fun vs H Q _ => ∃ (b : Addr) (n : Int), vs = [.ref b, .int n] ∧ BoxAt b H ∧ 0 < n ∧ n < 1000 ∧
  ∀ (d : Int) (H' : Hp), 0 ≤ d → d < n → Bx b H H' → Q (.int d) H'
theorem ok_choose (T : BT mg) {f : Addr} {fd : FuncData} (F : Def K mg "_law_choose" s_choose f fd) (b : Binds K fd ["box", "many"] []) : Cal P w K mg base 1 "_law_choose" spChoose [] := by
  refine cal0 F b .nil sc_choose (fun vs H Q E h => ?_) (fun cdv A outer s H vs Q E hr h => ?_)
  · obtain ⟨b, n, rfl, _⟩ := h; rfl
  · obtain ⟨b, n, rfl, ⟨o, hb, x, y, z, rfl⟩, n0, n1, k⟩ := h
    refine ⟨_, (pss_cons (ps_if (pt_cmpR op_gt (pe_ix (ixl K) (pv 0) pe_int (fun _ _ => rfl)) pe_int (nomark _)) 
        (pss_cons (ps_set (i := 2) sc_choose.nd rfl (.inl rfl) (pe_op op_mod (pe_callTy call_int1 (by rfl) T.m_int PyProof.Rows.boot_int (pa_cons (pe_ix (ixl K) (pv 0) pe_int (fun _ _ => rfl)) pa_nil)) (pv 1)))
        (pss_cons (ps_asg (pe_op op_fdiv (pe_ix (ixl K) (pv 0) pe_int (fun _ _ => rfl)) (pv 1)) (pg_sub (pv 0) pe_int set_list))
        (pss_one (ps_ret (pv 2))
        )))
       pss_nil)
      (pss_cons (ps_asg (pe_op op_add (pe_ix (ixl K) (pv 0) pe_int (fun _ _ => rfl)) pe_int) (pg_sub (pv 0) pe_int set_list))
      (pss_cons (ps_set (i := 3) sc_choose.nd rfl (.inl rfl) (pe_op op_mod (pe_callTy call_int1 (by rfl) T.m_int PyProof.Rows.boot_int (pa_cons (pe_op op_add (pe_op op_mul (pe_op op_add (pe_ix (ixl K) (pv 0) pe_int (fun _ _ => rfl)) (pe_op op_mul pe_int (pe_ix (ixl K) (pv 0) pe_int (fun _ _ => rfl)))) pe_int) pe_int) pa_nil)) pe_int))
      (pss_cons (ps_asg (pe_op op_add (pe_op op_mod (pe_callTy call_int1 (by rfl) T.m_int PyProof.Rows.boot_int (pa_cons (pe_op op_add (pe_op op_mul (pv 3) pe_int) pe_int) pa_nil)) pe_int) pe_int) (pg_sub (pv 0) pe_int set_list))
      (pss_one (ps_ret (pe_op op_mod (pe_callTy call_int1 (by rfl) T.m_int PyProof.Rows.boot_int (pa_cons (pe_op op_fdiv (pe_op op_add (pe_op op_mul (pv 3) pe_int) (pe_ix (ixl K) (pv 0) pe_int (fun _ _ => rfl))) pe_int) pa_nil)) (pv 1)))
      ))))), ?_⟩
    walk_at "s"
    walk_at "ix"
    walk_at "s"
    refine ite2 (fun _ => ?_) (fun _ => ?_)
    · walk_at "s"
      walk_at "ix"
      walk_at "s"
      walk_at "ix"
      walk_at "s"
      refine ⟨_, _, _, _, rfl, rfl, hb, rfl, ?_⟩
      walk_at "s"
      exact k _ _ (Int.emod_nonneg _ (by omega)) (Int.emod_lt_of_pos _ n0) (Bx.mk _ _ _)
    · walk_at "s"
      walk_at "ix"
      walk_at "s"
      refine ⟨_, _, _, _, rfl, rfl, hb, rfl, ?_⟩
      walk_at "s"
      walk_at "ix"
      walk_at "s"
      walk_at "ix"
      walk_at "s"
      refine ⟨_, _, _, _, rfl, rfl, upd_same, rfl, ?_⟩
      walk_at "s"
      walk_at "ix"
      walk_at "s"
      exact k _ _ (Int.emod_nonneg _ (by omega)) (Int.emod_lt_of_pos _ n0) ((Bx.mk (x := x) (y := y) (z := z + 1)).trans (Bx.mk _ _ _))
abbrev s_one_of : Stmt := top 24
abbrev n_one_of : List Str := ["box", "some"]
theorem sc_one_of : FnScope n_one_of ["box", "some"] (fnScope s_one_of) := fnScope_by (by decide +kernel)
def spOne : PySem.W.Frag → Sp := fun K vs H Q _ => ∃ (b l : Addr) (xs : List V), vs = [.ref b, .ref l] ∧ BoxAt b H ∧ l ≠ b ∧ SqL K H l xs ∧ 0 < xs.length ∧ xs.length < 1000 ∧
  ∀ (v : V) (H' : Hp), v ∈ xs → Bx b H H' → Q v H'
theorem ok_one (T : BT mg) (c_choose : Cal P w K mg base 1 "_law_choose" spChoose []) {f : Addr} {fd : FuncData} (F : Def K mg "_law_one_of" s_one_of f fd) (b : Binds K fd ["box", "some"] []) : Cal P w K mg base 2 "_law_one_of" (spOne K) [] := by
  refine cal0 F b .nil sc_one_of (fun vs H Q E h => ?_) (fun cdv A outer s H vs Q E hr h => ?_)
  · obtain ⟨b, l, xs, rfl, _⟩ := h; rfl
  · obtain ⟨b, l, xs, rfl, hb, hlb, hl, h0, h1, k⟩ := h
    refine ⟨_, (pss_one (ps_ret (pe_ix (ixl K) (pv 1) (pe_c c_choose hr (by first | decide | omega) (by rfl) (pa_cons (pv 0) (pa_cons (pe_callB (lenK K) (by rfl) T.m_len PySem.boot_len (pa_cons (pv 1) pa_nil)) pa_nil))) (fun _ _ => rfl)))
      ), ?_⟩
    walk_at "s"
    refine ⟨_, _, rfl, .inl hl, ?_⟩
    refine ⟨b, (xs.length : Int), rfl, hb, by omega, by omega, fun d H' d0 d1 hB => ?_⟩
    have hd : d.toNat < xs.length := by omega
    refine ⟨_, _, _, xs[d.toNat], rfl, rfl, bk_seq hB hlb hl, ?_, ?_⟩
    · exact at_of (by omega) (List.getElem?_eq_getElem hd)
    · exact k _ _ (List.getElem_mem hd) hB
theorem s_ab : (Str.ofString "ab") = S [97, 98] := by decide +kernel
theorem s_a : (Str.ofString "a") = S [97] := by decide +kernel
theorem s_abc : (Str.ofString "abc") = S [97, 98, 99] := by decide +kernel
theorem s_xz : (Str.ofString "xz") = S [120, 122] := by decide +kernel
theorem s_z : (Str.ofString "z") = S [122] := by decide +kernel
theorem s_nil : (Str.ofString "") = S [] := by decide +kernel
abbrev s_signs : Stmt := top 26
abbrev n_signs : List Str := ["box"]
theorem sc_signs : FnScope n_signs ["box"] (fnScope s_signs) := fnScope_by (by decide +kernel)
def spSigns : Sp := fun vs H Q _ => ∃ (b : Addr), vs = [.ref b] ∧ BoxAt b H ∧ ∀ (sg : List Nat) (H' : Hp), Menu sg → Bx b H H' → Q (.str (S sg)) H'
theorem ok_signs (T : BT mg) (c_one_of : Cal P w K mg base 2 "_law_one_of" (spOne K) []) {f : Addr} {fd : FuncData} (F : Def K mg "_law_signs" s_signs f fd) (b : Binds K fd ["box"] []) : Cal P w K mg base 3 "_law_signs" spSigns [] := by
  refine cal0 F b .nil sc_signs (fun vs H Q E h => ?_) (fun cdv A outer s H vs Q E hr h => ?_)
  · obtain ⟨b, rfl, _⟩ := h; rfl
  · obtain ⟨b, rfl, hb, k⟩ := h
    refine ⟨_, (pss_one (ps_ret (pe_c c_one_of hr (by first | decide | omega) (by rfl) (pa_cons (pv 0) (pa_cons (pe_lst (pa_cons pe_str (pa_cons pe_str (pa_cons pe_str (pa_cons pe_str (pa_cons pe_str pa_nil)))))) pa_nil))))
      ), ?_⟩
    walk_at "s"
    refine ⟨by decide, fun p hp => ?_⟩
    have hpb := box_ne hb hp
    refine ⟨b, p, _, rfl, ((Bx.put (bk_same (Same.refl H) hb) hb hp)).2, hpb, SqL.of upd_same, by decide, by decide, fun v H' hv hB => ?_⟩
    have hB' : Bx b H H' := (Bx.put (bk_same (Same.refl H) hb) hb hp).trans hB
    have e : v = .str (Str.ofString "ab") ∨ v = .str (Str.ofString "ab") ∨ v = .str (Str.ofString "a") ∨ v = .str (Str.ofString "abc") ∨ v = .str (Str.ofString "xz") := by simpa using hv
    rcases e with rfl | rfl | rfl | rfl | rfl
    · rw [s_ab]; exact k _ _ (by unfold Menu sgs; simp) hB'
    · rw [s_ab]; exact k _ _ (by unfold Menu sgs; simp) hB'
    · rw [s_a]; exact k _ _ (by unfold Menu sgs; simp) hB'
    · rw [s_abc]; exact k _ _ (by unfold Menu sgs; simp) hB'
    · rw [s_xz]; exact k _ _ (by unfold Menu sgs; simp) hB'
theorem menu_cases {sg : List Nat} (h : Menu sg) : sg = [97, 98] ∨ sg = [97] ∨ sg = [97, 98, 99] ∨ sg = [120, 122] := by
  unfold Menu sgs at h; simpa using h
theorem menu_len {sg : List Nat} (h : Menu sg) : 0 < sg.length ∧ sg.length ≤ 3 := by
  rcases menu_cases h with rfl | rfl | rfl | rfl <;> decide
theorem menu_nodup {sg : List Nat} (h : Menu sg) : sg.Nodup := by
  rcases menu_cases h with rfl | rfl | rfl | rfl <;> decide
theorem menu_small {sg : List Nat} (h : Menu sg) : ∀ c ∈ sg, 97 ≤ c ∧ c ≤ 122 := by
  rcases menu_cases h with rfl | rfl | rfl | rfl <;> decide
theorem singles_join : ∀ (ys : List V) (m : Nat) (sg : List Nat), ys.length = m → (∀ (j : Nat) y, ys[j]? = some y → ∃ c ∈ sg, y = .str (S [c])) → ∃ l : List Nat, l.length = m ∧ Ov sg l ∧ ys = (l.map fun c => V.str (S [c]))
  | [], m, sg, e, _ => ⟨[], e, (fun _ h => nomatch h), rfl⟩
  | y :: ys, m, sg, e, h => by
    obtain ⟨l, e1, o1, e2⟩ := singles_join ys (m - 1) sg (by simp at e; omega) fun j z q => h (j + 1) z q
    obtain ⟨c, hc, ec⟩ := h 0 y rfl
    refine ⟨c :: l, by simp at e ⊢; omega, fun d hd => ?_, by rw [ec, e2]; rfl⟩
    rcases List.mem_cons.mp hd with rfl | hd
    · exact hc
    · exact o1 d hd
abbrev s_row : Stmt := top 27
abbrev n_row : List Str := ["box", "signs", "most", "turn"]
theorem sc_row : FnScope n_row ["box", "signs", "most"] (fnScope s_row) := fnScope_by (by decide +kernel)
def spRow : Sp := fun vs H Q _ => ∃ (b : Addr) (sg : List Nat) (m : Nat), vs = [.ref b, .str (S sg), .int m] ∧ Menu sg ∧ m ≤ 100 ∧ BoxAt b H ∧ ∀ (l : List Nat) (H' : Hp), Ov sg l → l.length ≤ m → Bx b H H' → Q (.str (S l)) H'
theorem ok_row (T : BT mg) (c_choose : Cal P w K mg base 1 "_law_choose" spChoose []) (c_one_of : Cal P w K mg base 2 "_law_one_of" (spOne K) []) {f : Addr} {fd : FuncData} (F : Def K mg "_law_row" s_row f fd) (b : Binds K fd ["box", "signs", "most"] []) : Cal P w K mg base 3 "_law_row" spRow [] := by
  refine cal0 F b .nil sc_row (fun vs H Q E h => ?_) (fun cdv A outer s H vs Q E hr h => ?_)
  · obtain ⟨b, sg, m, rfl, _⟩ := h; rfl
  · obtain ⟨b, sg, m, rfl, hm, m100, hb, k⟩ := h
    refine ⟨_, (pss_one (ps_ret (pe_join pe_str (pe_lc (own := [("turn", 3)]) rfl sc_row.nd (pi_range1 (by rfl) T.m_range (pa_cons (pe_c c_choose hr (by first | decide | omega) (by rfl) (pa_cons (pv 0) (pa_cons (pe_op op_add (pv 2) pe_int) pa_nil))) pa_nil)) (blkOk_by (N := n_row) (sc := fnScope s_row) (by decide +kernel)) (fun _ _ _ _ _ => (pg_name (i := 3) sc_row.nd rfl (.inl rfl))) (fun _ _ _ _ _ => pts_nil) (fun _ _ _ _ _ => (pe_c c_one_of hr (by first | decide | omega) (by rfl) (pa_cons (pv 0) (pa_cons (pe_callTy (LX.call_list_str rfl) (by rfl) T.m_list PyProof.Rows.boot_list (pa_cons (pv 1) pa_nil)) pa_nil)))))))
      ), ?_⟩
    refine ⟨⟨_, rfl⟩, ?_⟩
    walk_at "s"
    refine ⟨b, (m : Int) + 1, rfl, hb, by omega, by omega, fun d H1 d0 d1 hB => ?_⟩
    refine ⟨_, rfl, by omega, by omega, fun D hD => ?_⟩
    refine lc_keep (keep_bk hB.2) (walk_range (lo := 0) (n := d.toNat)) hD (by show d.toNat < sizeLine; exact small1000 (by omega)) (fun _ y => ∃ c ∈ sg, y = .str (S [c])) (fun _ _ => trivial) (fun i x H2 H3 R hi r hy hR => ?_) (fun ys H2 hl hg r hDs => ?_)
    · obtain ⟨rfl, rfl⟩ := hy
      refine ⟨rfl, ?_⟩
      walk_at "s"
      refine ⟨Nat.le_trans (menu_len hm).2 (by decide), fun p hp => ?_⟩
      refine ⟨b, p, _, rfl, (Bx.put (bk_same (Same.refl H3) r.2) r.2 hp).2, box_ne r.2 hp, SqL.of upd_same, by simpa using (menu_len hm).1, by simp; have := (menu_len hm).2; omega, fun v H4 hv hB4 => ?_⟩
      refine hR v H4 ((Bx.put (bk_same (Same.refl H3) r.2) r.2 hp).trans hB4) ?_
      obtain ⟨c, hc, rfl⟩ := List.mem_map.mp hv
      exact ⟨c, hc, rfl⟩
    · obtain ⟨l, hl2, ho, rfl⟩ := singles_join ys _ sg hl hg
      have e1 : (l.map fun c => S [c]) = (l.map fun c => [c]).map S := by rw [List.map_map]; rfl
      have e2 : ((l.map fun c => S [c]).map (·.length)).sum ≤ 101 := by
        have : ∀ l : List Nat, ((l.map fun c => S [c]).map (·.length)).sum = l.length := by
          intro l; induction l with
          | nil => rfl
          | cons c l ih => simp only [List.map_cons, List.sum_cons, ih, List.length_cons]; rw [S_len]; simp; omega
        rw [this]; omega
      refine ⟨_, D, (l.map fun c => S [c]), rfl, rfl, .inl (SqL.of (by rw [List.map_map]; exact hDs)), ?_, ?_⟩
      · rw [s_nil, S_len]; simp only [List.length_nil, Nat.mul_zero, Nat.add_zero]; omega
      · show Q (.str (Txt.join (Str.ofString "") (l.map fun c => S [c]))) H2
        rw [s_nil, e1, join_txs, flat_singles]
        exact k l _ ho (by omega) (hB.trans r)
abbrev s_images : Stmt := top 28
abbrev n_images : List Str := ["box", "signs", "most", "form", "least", "found", "sign"]
theorem sc_images : FnScope n_images ["box", "signs", "most"] (fnScope s_images) := fnScope_by (by decide +kernel)
def spImages : Sp := fun vs H Q _ => ∃ (b : Addr) (sg : List Nat) (m : Nat), vs = [.ref b, .str (S sg), .int m] ∧ Menu sg ∧ 1 ≤ m ∧ m ≤ 100 ∧ BoxAt b H ∧
  ∀ (p : Addr) (ims : List (List Nat)) (H' : Hp), Ims sg ims m → Bx b H H' → H p = none → H' p = some (.lst (txs ims)) → Q (.ref p) H'
theorem ims_self {sg : List Nat} {m : Nat} (h : 1 ≤ m) : Ims sg (sg.map fun c => [c]) m := by
  refine ⟨List.length_map .., fun l hl => ?_⟩
  obtain ⟨c, hc, rfl⟩ := List.mem_map.mp hl
  exact ⟨fun d hd => by rw [List.mem_singleton.mp hd]; exact hc, h⟩
theorem ims_void {sg : List Nat} {m : Nat} : Ims sg (sg.map fun _ => []) m := by
  refine ⟨List.length_map .., fun l hl => ?_⟩
  obtain ⟨c, hc, rfl⟩ := List.mem_map.mp hl
  exact ⟨(fun d hd => nomatch hd), Nat.zero_le _⟩
theorem ite_ii {c : Prop} [Decidable c] {F : V → Prop} {z0 z1 : Int} (h : ∀ z, (z = z0 ∨ z = z1) → F (.int z)) : if c then F (.int z0) else F (.int z1) := by
  by_cases e : c
  · rw [if_pos e]; exact h _ (.inl rfl)
  · rw [if_neg e]; exact h _ (.inr rfl)
theorem ok_images (T : BT mg) (c_choose : Cal P w K mg base 1 "_law_choose" spChoose []) (c_one_of : Cal P w K mg base 2 "_law_one_of" (spOne K) []) (c_row : Cal P w K mg base 3 "_law_row" spRow []) {f : Addr} {fd : FuncData} (F : Def K mg "_law_images" s_images f fd) (b : Binds K fd ["box", "signs", "most"] []) : Cal P w K mg base 4 "_law_images" spImages [] := by
  refine cal0 F b .nil sc_images (fun vs H Q E h => ?_) (fun cdv A outer s H vs Q E hr h => ?_)
  · obtain ⟨b, sg, m, rfl, _⟩ := h; rfl
  · obtain ⟨b, sg, m, rfl, hm, m1, m100, hb, k⟩ := h
    refine ⟨_, (pss_cons (ps_set (i := 3) sc_images.nd rfl (.inl rfl) (pe_c c_choose hr (by first | decide | omega) (by rfl) (pa_cons (pv 0) (pa_cons pe_int pa_nil))))
      (pss_cons (ps_if (pt_cmpR op_eq (pv 3) pe_int (nomark _)) 
        (pss_one (ps_ret (pe_callTy (LX.call_list_str rfl) (by rfl) T.m_list PyProof.Rows.boot_list (pa_cons (pv 1) pa_nil)))
        )
       pss_nil)
      (pss_cons (ps_if (pt_cmpR op_eq (pv 3) pe_int (nomark _)) 
        (pss_one (ps_ret (pe_lc (own := [("sign", 6)]) rfl sc_images.nd (pi_str (pv 1)) (blkOk_by (N := n_images) (sc := fnScope s_images) (by decide +kernel)) (fun _ _ _ _ _ => (pg_name (i := 6) sc_images.nd rfl (.inl rfl))) (fun _ _ _ _ _ => pts_nil) (fun _ _ _ _ _ => pe_str)))
        )
       pss_nil)
      (pss_cons (ps_set (i := 4) sc_images.nd rfl (.inl rfl) (pe_ifExp (pt_cmpR op_eq (pv 3) pe_int (nomark _)) pe_int pe_int))
      (pss_cons (ps_set (i := 5) sc_images.nd rfl (.inl rfl) (pe_lst pa_nil))
      (pss_cons (ps_for PassesOwn.never rfl (pi_str (pv 1)) (pg_name (i := 6) sc_images.nd rfl (.inl rfl)) 
        (pss_one (ps_expr (pe_bm PySem.F.plainAttrs_list PySem.F.slot_list_append PySem.F.type_list_append mt_append (pv 5) (pa_cons (pe_op op_add_str (pe_op op_mul_si (pe_c c_one_of hr (by first | decide | omega) (by rfl) (pa_cons (pv 0) (pa_cons (pe_callTy (LX.call_list_str rfl) (by rfl) T.m_list PyProof.Rows.boot_list (pa_cons (pv 1) pa_nil)) pa_nil))) (pv 4)) (pe_c c_row hr (by first | decide | omega) (by rfl) (pa_cons (pv 0) (pa_cons (pv 1) (pa_cons (pe_op op_sub (pv 2) (pv 4)) pa_nil))))) pa_nil)))
        ))
      (pss_one (ps_ret (pv 5))
      ))))))), ?_⟩
    walk_at "s"
    refine ⟨b, 8, rfl, hb, by decide, by decide, fun d H1 d0 d1 hB => ?_⟩
    have hlen := menu_len hm
    walk_at "s"
    refine ⟨rfl, _, rfl, ite2 (fun e => ?_) (fun ne0 => ?_)⟩
    · walk_at "s"
      refine ⟨Nat.le_trans hlen.2 (by decide), fun p hp => ?_⟩
      refine k p (sg.map fun c => [c]) _ (ims_self m1) (hB.put hb (hB.free hp)) (hB.free hp) ?_
      rw [upd_same]; unfold txs; rw [List.map_map]; rfl
    walk_at "s"
    refine ⟨rfl, _, rfl, ite2 (fun e => ?_) (fun ne1 => ?_)⟩
    · walk_at "s"
      refine fun D hD => lc_keep (keep_bk hB.2) walk_str hD (by show sg.length < sizeLine; exact small1000 (by omega)) (fun _ y => y = .str (S [])) (fun _ _ => trivial) (fun i x H2 H3 R hi r hy hR => ?_) (fun ys H2 hl hg r hDs => ?_)
      · obtain ⟨rfl, c, hc, rfl⟩ := hy
        exact ⟨rfl, hR _ _ (bk_same (Same.refl _) r.2) (by rw [s_nil])⟩
      · refine k D (sg.map fun _ => []) H2 ims_void (hB.trans r) (hB.free hD) ?_
        rw [hDs]
        have : ys = txs (sg.map fun _ => []) := by
          unfold txs; rw [List.map_map]
          exact list_map (f := fun _ => V.str (S [])) hl fun j y x e1 _ => hg j y e1
        rw [this]
    walk_at "s"
    refine ⟨rfl, _, rfl, ite_ii (F := fun v => tC v _ _ _) fun z hz => ?_⟩
    have z01 : z = 0 ∨ z = 1 := hz
    refine ⟨by decide, fun p hp => ?_⟩
    have hpb : p ≠ b := box_ne hB.2 hp
    have hB2 : Bx b H (upd H1 p (.lst [])) := hB.put hb (hB.free hp)
    refine ⟨_, rfl, _, rfl, for_it walk_str (fun i σ H' => ∃ (acc : List (List Nat)) (sv : Option V), acc.length = i ∧ (∀ l ∈ acc, Ov sg l ∧ l.length ≤ m) ∧ σ = [some (.ref b), some (.str (S sg)), some (.int m), some (.int d), some (.int z), some (.ref p), sv] ∧ H' p = some (.lst (txs acc)) ∧ Bx b H H')
      ⟨[], none, rfl, (fun _ h => nomatch h), rfl, upd_same, hB2⟩ (fun _ _ _ _ _ => trivial) ?_ ?_⟩
    · rintro i x σ H2 H3 hi ⟨acc, sv, hl, hg, rfl, hp2, hB3⟩ ⟨rfl, c, hc, rfl⟩
      refine ⟨_, rfl, .inl ⟨rfl, _, SqL.of hp2⟩, ?_⟩
      walk_at "s"
      refine ⟨Nat.le_trans hlen.2 (by decide), fun q hq => ?_⟩
      have hq3 : Bx b H3 (upd H3 q (.lst (sg.map fun c => V.str (S [c])))) := Bx.put (bk_same (Same.refl H3) hB3.2) hB3.2 hq
      refine ⟨b, q, _, rfl, hq3.2, box_ne hB3.2 hq, SqL.of upd_same, by simpa using hlen.1, by simp; omega, fun v H4 hv hB4 => ?_⟩
      obtain ⟨e, he, rfl⟩ := List.mem_map.mp hv
      walk_at "s"
      refine ⟨z01, ?_⟩
      walk_at "s"
      have hB5 : Bx b H3 H4 := hq3.trans hB4
      refine ⟨b, sg, m - z.toNat, by show [V.ref b, V.str (S sg), V.int ((m : Int) - z)] = _; rw [show ((m : Int) - z) = ((m - z.toNat : Nat) : Int) by omega], hm, by omega, hB5.2, fun l H5 ho hl5 hB6 => ?_⟩
      have ef : (if z = 0 then S [] else S [e]) = S (if z = 0 then [] else [e]) := by split <;> rfl
      have lf : (if z = 0 then ([] : List Nat) else [e]).length = z.toNat := by rcases z01 with rfl | rfl <;> rfl
      refine ⟨_, _, rfl, rfl, ?_, ?_⟩
      · rw [ef, S_len, S_len, lf]; exact Nat.le_trans (show z.toNat + l.length ≤ 1000 by omega) (by decide)
      have hB7 : Bx b H3 H5 := hB5.trans hB6
      refine ⟨p, _, _, rfl, rfl, hB7.1 _ _ hpb hp2, ?_, ?_⟩
      · rw [txs_len]; have : acc.length < sg.length := by rw [hl]; exact hi
        exact small1000 (by omega)
      have hp5 : H5 p = some (.lst (txs acc)) := hB7.1 _ _ hpb hp2
      refine ⟨acc ++ [(if z = 0 then [] else [e]) ++ l], _, by simp [hl], fun r hr => ?_, rfl, ?_, ?_⟩
      · rcases List.mem_append.mp hr with h | h
        · exact hg r h
        · rw [List.mem_singleton.mp h]
          refine ⟨fun x hx => ?_, by rw [List.length_append, lf]; omega⟩
          rcases List.mem_append.mp hx with h | h
          · rcases z01 with rfl | rfl
            · simp at h
            · simp at h; rw [h]; exact he
          · exact ho x h
      · rw [upd_same, ef, S_cat]; unfold txs; rw [List.map_append]; rfl
      · exact ⟨fun a o n e' => by
          by_cases hap : a = p
          · exfalso; have := hB.free hp; rw [← hap, e'] at this; cases this
          · rw [upd_ne hap]; exact hB7.1 a o n (hB3.1 a o n e'), by
          obtain ⟨o, eo, po⟩ := hB7.2
          exact ⟨o, by rw [upd_ne hpb.symm]; exact eo, po⟩⟩
    · rintro σ H2 ⟨acc, sv, hl, hg, rfl, hp2, hB3⟩
      walk_at "s"
      exact k p acc H2 ⟨hl, hg⟩ hB3 (hB.free hp) hp2
abbrev s_seed : Stmt := top 22
abbrev n_seed : List Str := ["script", "k", "cell"]
theorem sc_seed : FnScope n_seed ["script", "k"] (fnScope s_seed) := fnScope_by (by decide +kernel)
def spSeed : PySem.W.Frag → Sp := fun K vs H Q _ => ∃ (a : Addr) (k : Nat) (ns : List Int), vs = [.ref a, .int k] ∧ SqL K H a (ns.map V.int) ∧ ns.length ≤ 63 ∧
  ∀ (p : Addr) (H' : Hp), Same H H' → H p = none → BoxAt p H' → Q (.ref p) H'
theorem int_at {ns : List Int} {i : Nat} (h : i < ns.length) : ∃ z : Int, (ns.map V.int)[i]? = some (.int z) := ⟨ns[i], by rw [List.getElem?_map, List.getElem?_eq_getElem h]; rfl⟩
theorem ok_seed (T : BT mg) {f : Addr} {fd : FuncData} (F : Def K mg "_law_seed" s_seed f fd) (b : Binds K fd ["script", "k"] []) : Cal P w K mg base 1 "_law_seed" (spSeed K) [] := by
  refine cal0 F b .nil sc_seed (fun vs H Q E h => ?_) (fun cdv A outer s H vs Q E hr h => ?_)
  · obtain ⟨a, k, ns, rfl, _⟩ := h; rfl
  · obtain ⟨a, k, ns, rfl, ha, hl, kk⟩ := h
    refine ⟨_, (pss_cons (ps_set (i := 2) sc_seed.nd rfl (.inl rfl) (pe_op op_add (pe_op op_mul pe_int (pv 1)) pe_int))
      (C8.pss_cut (ps_if (pt_cmpR op_lt (pv 1) (pe_callB (lenK K) (by rfl) T.m_len PySem.boot_len (pa_cons (pv 0) pa_nil)) (nomark _)) 
        (pss_one (ps_set (i := 2) sc_seed.nd rfl (.inl rfl) (pe_callB call_abs (by rfl) T.m_abs PyProof.Rows.boot_abs (pa_cons (pe_ix (ixl K) (pv 0) (pv 1) (fun _ _ => rfl)) pa_nil)))
        )
        (pss_one (ps_if (pt_cmpR op_gt (pe_callB (lenK K) (by rfl) T.m_len PySem.boot_len (pa_cons (pv 0) pa_nil)) pe_int (nomark _)) 
          (pss_one (ps_set (i := 2) sc_seed.nd rfl (.inl rfl) (pe_op op_add (pv 2) (pe_op op_mul (pe_op op_mod (pe_callTy call_int1 (by rfl) T.m_int PyProof.Rows.boot_int (pa_cons (pe_callB call_abs (by rfl) T.m_abs PyProof.Rows.boot_abs (pa_cons (pe_ix (ixl K) (pv 0) (pe_op op_mod (pe_callTy call_int1 (by rfl) T.m_int PyProof.Rows.boot_int (pa_cons (pv 1) pa_nil)) (pe_callB (lenK K) (by rfl) T.m_len PySem.boot_len (pa_cons (pv 0) pa_nil))) (fun _ _ => rfl)) pa_nil)) pa_nil)) pe_int) pe_int)))
          )
         pss_nil)
        ))
      (pss_one (ps_ret (pe_lst (pa_cons (pe_ifExp (pt_cmpR op_ge (pv 2) (pe_op op_pow pe_int pe_int) (nomark _)) (pv 2) pe_int) (pa_cons (pe_op op_add (pe_op op_mod (pe_callTy call_int1 (by rfl) T.m_int PyProof.Rows.boot_int (pa_cons (pe_op op_add (pe_op op_mul (pe_op op_mod (pe_callTy call_int1 (by rfl) T.m_int PyProof.Rows.boot_int (pa_cons (pv 2) pa_nil)) pe_int) pe_int) (pe_op op_mul pe_int (pv 1))) pa_nil)) pe_int) pe_int) (pa_cons pe_int pa_nil)))))
      ))), ?_⟩
    walk_at "s"
    refine ⟨fun σ H' => H' = H ∧ ∃ c : Int, σ = [some (.ref a), some (.int k), some (.int c)], ?_, ?_⟩
    · walk_at "s"
      refine ⟨_, _, rfl, .inl ha, ?_⟩
      walk_at "s"
      refine ite2 (fun hk => ?_) (fun hk => ?_)
      · rw [List.length_map, decide_eq_true_eq] at hk
        obtain ⟨z, hz⟩ := int_at (ns := ns) (i := k) (by omega)
        walk_at "s"
        refine ⟨_, _, _, .int z, rfl, rfl, ha, at_of rfl hz, ?_⟩
        walk_at "s"
        exact ⟨rfl, _, rfl⟩
      · walk_at "s"
        refine ⟨_, _, rfl, .inl ha, ?_⟩
        walk_at "s"
        refine ite2 (fun h0 => ?_) (fun h0 => ?_)
        · rw [List.length_map, decide_eq_true_eq] at h0
          have hn : 0 < (ns.length : Int) := by omega
          walk_at "s"
          refine ⟨_, _, rfl, .inl ha, ?_⟩
          refine ⟨_, _, rfl, rfl, by rw [List.length_map]; exact hn, ?_⟩
          have hm0 := Int.emod_nonneg (k : Int) (show ((ns.map V.int).length : Int) ≠ 0 by rw [List.length_map]; omega)
          have hm1 := Int.emod_lt_of_pos (k : Int) (show (0 : Int) < ((ns.map V.int).length : Int) by rw [List.length_map]; omega)
          obtain ⟨z, hz⟩ := int_at (ns := ns) (i := ((k : Int) % ((ns.map V.int).length : Int)).toNat) (by rw [List.length_map] at hm1 ⊢; omega)
          refine ⟨_, _, _, .int z, rfl, rfl, ha, at_of (by omega) hz, ?_⟩
          walk_at "s"
          exact ⟨rfl, _, rfl⟩
        · exact ⟨rfl, _, rfl⟩
    · rintro σ H' ⟨rfl, c, rfl⟩
      walk_at "s"
      refine ite2 (fun _ => ?_) (fun _ => ?_)
      · walk_at "s"
        exact ⟨(by show 3 ≤ sizeLine; decide), fun p hp => kk p _ (sm_new hp) hp (BoxAt.of upd_same)⟩
      · walk_at "s"
        exact ⟨(by show 3 ≤ sizeLine; decide), fun p hp => kk p _ (sm_new hp) hp (BoxAt.of upd_same)⟩
end
end Toy
set_option maxHeartbeats 2000000
namespace Toy
open PySem L2 C8 SX LX
local macro_rules | `(tactic| walk_at "c") => `(tactic| refine And.intro (by first | (show (0 : Int) < _; omega) | exact Or.inr ⟨by decide, by decide⟩ | exact Or.inl ⟨by decide, by decide⟩ | (exact ⟨by omega, by omega⟩)) ?_)
local macro_rules | `(tactic| walk_at "s1") => `(tactic| first | refine ⟨_, rfl, ?_⟩ | refine ⟨_, _, rfl, rfl, ?_⟩ | refine .inl ⟨_, rfl, ?_⟩ | walk_at "c")
local macro_rules | `(tactic| walk_at "ix") => `(tactic| refine ⟨_, _, _, _, rfl, rfl, SqL.of (by first | assumption | exact upd_same), rfl, ?_⟩)
local macro_rules | `(tactic| walk_at "s") => `(tactic| repeat (walk_at "s1"))
def Sg (sg : List Nat) : Prop := sg.Pairwise (· < ·) ∧ 1 ≤ sg.length ∧ sg.length ≤ 3 ∧ ∀ c ∈ sg, 97 ≤ c ∧ c ≤ 122
theorem ov_az {l : List Nat} : Ov az l ↔ ∀ c ∈ l, 97 ≤ c ∧ c ≤ 122 := ⟨fun h c hc => az_mem.mp (h c hc), fun h c hc => az_mem.mpr (h c hc)⟩
abbrev s_isseq : Stmt := top 6
abbrev n_isseq : List Str := ["value"]
theorem sc_isseq : FnScope n_isseq ["value"] (fnScope s_isseq) := fnScope_by (by decide +kernel)
abbrev s_isrow : Stmt := top 10
abbrev n_isrow : List Str := ["value", "signs"]
theorem sc_isrow : FnScope n_isrow ["value", "signs"] (fnScope s_isrow) := fnScope_by (by decide +kernel)
abbrev s_isletters : Stmt := top 8
abbrev n_isletters : List Str := ["value"]
theorem sc_isletters : FnScope n_isletters ["value"] (fnScope s_isletters) := fnScope_by (by decide +kernel)
abbrev s_issigns : Stmt := top 9
abbrev n_issigns : List Str := ["value", "one", "other"]
theorem sc_issigns : FnScope n_issigns ["value"] (fnScope s_issigns) := fnScope_by (by decide +kernel)
theorem sg_asc {sg : List Nat} (h : Sg sg) (i c d : Nat) (e1 : sg[i]? = some c) (e2 : sg[i + 1]? = some d) : c < d := by
  obtain ⟨a1, a2⟩ := List.getElem?_eq_some_iff.mp e1
  obtain ⟨b1, b2⟩ := List.getElem?_eq_some_iff.mp e2
  have := List.pairwise_iff_getElem.mp h.1 i (i + 1) a1 b1 (Nat.lt_succ_self i)
  rw [a2, b2] at this; exact this
instance (sg l : List Nat) : Decidable (Ov sg l) := by unfold Ov; infer_instance
inductive Kv (K : PySem.W.Frag) (H : Hp) : V → Option (List Nat) → Prop
  | txt (l : List Nat) : Kv K H (.str (S l)) (some l)
  | no {v : V} {t : Value} (ty : TyX K H v t) (h : PySem.W.kitOne K t (.type "str") = some false) : Kv K H v none
def tyN : PyData → String
  | .none => "NoneType"
  | .bool _ => "bool"
  | .int _ => "int"
  | .str _ => "str"
  | .list _ => "list"
  | .tuple _ => "tuple"
  | .dict _ => "dict"
def txtO : PyData → Option (List Nat)
  | .str s => some s.cps.toList
  | _ => none
def isSeqD : PyData → Bool
  | .list _ => true
  | .tuple _ => true
  | _ => false
theorem S_self (s : Str) : S s.cps.toList = s := by
  obtain ⟨c⟩ := s
  simp [S]
theorem ty_seqL {K : PySem.W.Frag} {H : Hp} {a : Addr} {xs : List V} (h : SqL K H a xs) : TyX K H (.ref a) (.type "list") := by
  rcases h with (h | ⟨o, h⟩) | ⟨o, its, n, h1, h2, _⟩
  · exact .base (.lst h)
  · exact .base (.frz h)
  · exact .kList h1 h2
theorem ty_seqT {K : PySem.W.Frag} {H : Hp} {a : Addr} {xs : List V} (h : SqT K H a xs) : TyX K H (.ref a) (.type "tuple") := by
  rcases h with (h | ⟨o, h⟩) | ⟨o, its, n, h1, h2, _⟩
  · exact .base (.tup h)
  · exact .fTuple h
  · exact .kTuple h1 h2
theorem dp_ty {K : PySem.W.Frag} {H : Hp} {v : V} {d : PyData} (h : Dp K H v d) : TyX K H v (.type (tyN d)) := by
  cases h with
  | non => exact .base .non
  | bl b => exact .base (.bl b)
  | int i => exact .base (.int i)
  | str x => exact .base (.str x)
  | lst h _ => exact ty_seqL h
  | tup h _ => exact ty_seqT h
theorem dp_kv {K : PySem.W.Frag} {H : Hp} {v : V} {d : PyData} (h : Dp K H v d) : Kv K H v (txtO d) := by
  have ty := dp_ty h
  cases h with
  | non => exact .no ty (kit_ty (a := "NoneType") (by decide +kernel))
  | bl b => exact .no ty (kit_ty (a := "bool") (by decide +kernel))
  | int i => exact .no ty (kit_ty (a := "int") (by decide +kernel))
  | str x =>
    have e : V.str x = V.str (S x.cps.toList) := by rw [S_self]
    rw [e]
    exact .txt _
  | lst h _ => exact .no ty (kit_ty (a := "list") (by decide +kernel))
  | tup h _ => exact .no ty (kit_ty (a := "tuple") (by decide +kernel))
theorem kv_ins {K : PySem.W.Frag} {H : Hp} {a C dx : Addr} {fs : List (Str × V)} (I : InsC K C) (hk : PySem.W.kitOne K (.ref C) (.type "str") = some false) (h : H a = some (.ins C dx fs)) : Kv K H (.ref a) none :=
  .no (.base (.ins h I.cl I.ha I.hn I.htk I.hm)) hk
mutual
theorem dp_same {K : PySem.W.Frag} {H H' : Hp} (s : Same H H') : ∀ (d : PyData) (v : V), Dp K H v d → Dp K H' v d
  | .none, _, h => by cases h; exact .non
  | .bool b, _, h => by cases h; exact .bl b
  | .int i, _, h => by cases h; exact .int i
  | .str x, _, h => by cases h; exact .str x
  | .list ds, _, h => by
    cases h with
    | lst hs ha => exact .lst (s.seq hs) (dpa_same s ds _ ha)
  | .tuple ds, _, h => by
    cases h with
    | tup hs ha => exact .tup (sm_seqT s hs) (dpa_same s ds _ ha)
  | .dict _, _, h => by cases h
theorem dpa_same {K : PySem.W.Frag} {H H' : Hp} (s : Same H H') : ∀ (ds : List PyData) (vs : List V), DpAll K H vs ds → DpAll K H' vs ds
  | [], _, h => by cases h; exact .nil
  | d :: ds, _, h => by
    cases h with
    | cons h1 h2 => exact .cons (dp_same s d _ h1) (dpa_same s ds _ h2)
end
theorem dpa_len {K : PySem.W.Frag} {H : Hp} : ∀ {vs : List V} {ds : List PyData}, DpAll K H vs ds → vs.length = ds.length
  | _, _, .nil => rfl
  | _, _, .cons _ h => by rw [List.length_cons, List.length_cons, dpa_len h]
theorem dpa_at {K : PySem.W.Frag} {H : Hp} : ∀ {vs : List V} {ds : List PyData}, DpAll K H vs ds → ∀ (i : Nat) (v : V), vs[i]? = some v → ∃ d, ds[i]? = some d ∧ Dp K H v d
  | _, _, .nil, i, v, h => by simp at h
  | _, _, .cons h _, 0, v, e => by cases e; exact ⟨_, rfl, h⟩
  | _, _, .cons _ h, i + 1, v, e => dpa_at h i v e
def seqD (b : Bool) (ds : List PyData) : PyData := if b = true then .list ds else .tuple ds
theorem dp_seq {K : PySem.W.Frag} {H : Hp} {v : V} {b : Bool} {ds : List PyData} (h : Dp K H v (seqD b ds)) : ∃ a xs, v = .ref a ∧ SqB K b H a xs ∧ DpAll K H xs ds := by
  cases b with
  | true =>
    have h : Dp K H v (.list ds) := h
    cases h with
    | lst hs ha => exact ⟨_, _, rfl, hs, ha⟩
  | false =>
    have h : Dp K H v (.tuple ds) := h
    cases h with
    | tup hs ha => exact ⟨_, _, rfl, hs, ha⟩
theorem isSeq_of {d : PyData} (h : isSeqD d = true) : ∃ b ds, d = seqD b ds := by
  cases d with
  | list ds => exact ⟨true, ds, rfl⟩
  | tuple ds => exact ⟨false, ds, rfl⟩
  | _ => cases h
theorem bools_of {ys : List V} {n : Nat} {f : Nat → Bool} (hl : ys.length = n) (h : ∀ (j : Nat) y, ys[j]? = some y → y = .bl (f j)) : ys = ((List.range n).map f).map V.bl := by
  rw [List.map_map]
  exact list_of hl h
theorem all_range {n : Nat} {f : Nat → Bool} : ((List.range n).map f).all id = decide (∀ i, i < n → f i = true) := by
  rw [Bool.eq_iff_iff, List.all_eq_true, decide_eq_true_eq]
  constructor
  · intro h i hi
    exact h _ (List.mem_map.mpr ⟨i, List.mem_range.mpr hi, rfl⟩)
  · intro h b hb
    obtain ⟨i, hi, rfl⟩ := List.mem_map.mp hb
    exact h i (List.mem_range.mp hi)
section
variable {P : Program} {w : World} {K : PySem.W.Frag} {mg : Str → Option Value} {base : Heap}
def spIsSeqD (K : PySem.W.Frag) : Sp := fun vs H Q _ => ∃ (v : V) (d : PyData), vs = [v] ∧ Dp K H v d ∧ ∀ H', Same H H' → Q (.bl (isSeqD d)) H'
theorem ok_isseqD (T : BT mg) {f : Addr} {fd : FuncData} (F : Def K mg "is_sequence" s_isseq f fd) (b : Binds K fd ["value"] []) : Cal P w K mg base 1 "is_sequence" (spIsSeqD K) [] := by
  refine cal0 F b .nil sc_isseq (fun vs H Q E h => ?_) (fun cdv A outer s H vs Q E hr h => ?_)
  · obtain ⟨v, d, rfl, _⟩ := h; rfl
  · obtain ⟨v, d, rfl, hd, k⟩ := h
    refine ⟨_, (pss_one (ps_ret (pe_callB (isiTK K) (by rfl) T.m_isinstance PyProof.Rows.boot_isinstance (pa_cons (pv 0) (pa_cons (pe_tup (pa_cons (pe_bltn (v := .ty "list") (by rfl) T.m_list PyProof.Rows.boot_list rfl) (pa_cons (pe_bltn (v := .ty "tuple") (by rfl) T.m_tuple PyProof.Rows.boot_tuple rfl) pa_nil))) pa_nil))))
      ), ?_⟩
    walk_at "s"
    refine ⟨by decide, fun t ht => ?_⟩
    have ty := dp_ty (dp_same (sm_new (o := .tup [.ty "list", .ty "tuple"]) ht) d v hd)
    refine ⟨_, t, _, _, _, isSeqD d, rfl, upd_same, .cons (.ty _) (.cons (.ty _) .nil), ty, ?_, k _ (sm_new ht)⟩
    cases d with
    | list ds => exact kitAny_cons (b := true) (kit_ty (a := "list") (by decide +kernel)) (fun h => nomatch h) (fun _ => rfl)
    | tuple ds => exact kitAny_cons (b := false) (kit_ty (a := "tuple") (by decide +kernel)) (fun _ => kitAny_cons (b := true) (kit_ty (a := "tuple") (by decide +kernel)) (fun h => nomatch h) (fun _ => rfl)) (fun h => nomatch h)
    | dict ds => cases hd
    | none => exact kitAny_cons (b := false) (kit_ty (a := "NoneType") (by decide +kernel)) (fun _ => kitAny_cons (b := false) (kit_ty (a := "NoneType") (by decide +kernel)) (fun _ => rfl) (fun h => nomatch h)) (fun h => nomatch h)
    | bool _ => exact kitAny_cons (b := false) (kit_ty (a := "bool") (by decide +kernel)) (fun _ => kitAny_cons (b := false) (kit_ty (a := "bool") (by decide +kernel)) (fun _ => rfl) (fun h => nomatch h)) (fun h => nomatch h)
    | int _ => exact kitAny_cons (b := false) (kit_ty (a := "int") (by decide +kernel)) (fun _ => kitAny_cons (b := false) (kit_ty (a := "int") (by decide +kernel)) (fun _ => rfl) (fun h => nomatch h)) (fun h => nomatch h)
    | str _ => exact kitAny_cons (b := false) (kit_ty (a := "str") (by decide +kernel)) (fun _ => kitAny_cons (b := false) (kit_ty (a := "str") (by decide +kernel)) (fun _ => rfl) (fun h => nomatch h)) (fun h => nomatch h)
def rowO (sg : List Nat) : Option (List Nat) → Bool
  | some l => decide (Ov sg l)
  | none => false
def Sm (o : Option (List Nat)) : Prop := ∀ l, o = some l → l.length ≤ 1000
def spIsRowD (K : PySem.W.Frag) : Sp := fun vs H Q _ => ∃ (v : V) (o : Option (List Nat)) (sg : List Nat), vs = [v, .str (S sg)] ∧ Kv K H v o ∧ Sm o ∧ Q (.bl (rowO sg o)) H
theorem ok_isrowD (T : BT mg) {f : Addr} {fd : FuncData} (F : Def K mg "is_row" s_isrow f fd) (b : Binds K fd ["value", "signs"] []) : Cal P w K mg base 1 "is_row" (spIsRowD K) [] := by
  refine cal0 F b .nil sc_isrow (fun vs H Q E h => ?_) (fun cdv A outer s H vs Q E hr h => ?_)
  · obtain ⟨v, o, sg, rfl, _⟩ := h; rfl
  · obtain ⟨v, o, sg, rfl, hv, hl, k⟩ := h
    refine ⟨_, (pss_one (ps_ret (pe_and (pe_callB (isiK K) (by rfl) T.m_isinstance PyProof.Rows.boot_isinstance (pa_cons (pv 0) (pa_cons (pe_bltn (v := .ty "str") (by rfl) T.m_str PyProof.Rows.boot_str rfl) pa_nil))) (pe_one (pe_cmpR op_eq (pe_bm PySem.F.plainAttrs_str PySem.F.slot_str_strip PySem.F.type_str_strip mt_stripChars (pv 0) (pa_cons (pv 1) pa_nil)) pe_str (nomark _)))))
      ), ?_⟩
    walk_at "s"
    cases hv with
    | no ty hk =>
      exact ⟨_, _, _, _, false, rfl, .ty _, ty, hk, false, rfl, iteN rfl k⟩
    | txt l =>
      have hl := hl l rfl
      refine ⟨_, _, _, _, true, rfl, .ty _, .base (.str _), kit_ty (by decide +kernel), true, rfl, ?_⟩
      refine iteT ?_
      refine ⟨_, rfl, rfl, _, rfl, S l, S sg, rfl, rfl, by rw [S_len]; exact sz hl (by decide), rfl, ?_⟩
      have e : V.bl (decide (V.str (Txt.stripChars (S l) (S sg)) = V.str (Str.ofString ""))) = V.bl (decide (Ov sg l)) := by
        rw [s_nil]
        refine congrArg V.bl (decide_eq_decide.mpr ?_)
        rw [V.str.injEq]
        exact strip_nil
      show Q (V.bl (decide (V.str (Txt.stripChars (S l) (S sg)) = V.str (Str.ofString "")))) H
      rw [e]
      exact k
def spIsLettersD (K : PySem.W.Frag) : Sp := fun vs H Q _ => ∃ (v : V) (o : Option (List Nat)), vs = [v] ∧ Kv K H v o ∧ Sm o ∧ Q (.bl (rowO az o)) H
theorem ok_islettersD (T : BT mg) {tz : Tok} (mgZ : mg "_LETTERS" = some (.str (S az) tz)) (c_isrow : Cal P w K mg base 1 "is_row" (spIsRowD K) []) {f : Addr} {fd : FuncData} (F : Def K mg "is_letters" s_isletters f fd) (b : Binds K fd ["value"] []) : Cal P w K mg base 2 "is_letters" (spIsLettersD K) [] := by
  refine cal0 F b .nil sc_isletters (fun vs H Q E h => ?_) (fun cdv A outer s H vs Q E hr h => ?_)
  · obtain ⟨v, o, rfl, _⟩ := h; rfl
  · obtain ⟨v, o, rfl, hv, hl, k⟩ := h
    refine ⟨_, (pss_one (ps_ret (pe_c c_isrow hr (by first | decide | omega) (by rfl) (pa_cons (pv 0) (pa_cons (pe_glob (v := .str (S az)) (by rfl) mgZ ⟨_, rfl⟩) pa_nil))))
      ), ?_⟩
    exact ⟨_, rfl, v, o, az, rfl, hv, hl, k⟩
instance (l : List Nat) : Decidable (Sg l) := by unfold Sg; infer_instance
def sgO : Option (List Nat) → Bool
  | some l => decide (Sg l)
  | none => false
def spIsSignsD (K : PySem.W.Frag) : Sp := fun vs H Q _ => ∃ (v : V) (o : Option (List Nat)), vs = [v] ∧ Kv K H v o ∧ Sm o ∧ ∀ H', Same H H' → Q (.bl (sgO o)) H'
theorem ok_issignsD (T : BT mg) (c_isletters : Cal P w K mg base 2 "is_letters" (spIsLettersD K) []) {f : Addr} {fd : FuncData} (F : Def K mg "is_signs" s_issigns f fd) (b : Binds K fd ["value"] []) : Cal P w K mg base 3 "is_signs" (spIsSignsD K) [] := by
  refine cal0 F b .nil sc_issigns (fun vs H Q E h => ?_) (fun cdv A outer s H vs Q E hr h => ?_)
  · obtain ⟨v, o, rfl, _⟩ := h; rfl
  · obtain ⟨v, o, rfl, hv, hl, k⟩ := h
    refine ⟨_, (pss_cons (ps_if (PW.pt (pw_or (pt_not (pt_val (pe_c c_isletters hr (by first | decide | omega) (by rfl) (pa_cons (pv 0) pa_nil)))) (pw_or (pt_cmpR op_lt (pe_callB call_len_str (by rfl) T.m_len PySem.boot_len (pa_cons (pv 0) pa_nil)) pe_int (nomark _)) (pw_or1 (pt_cmpR op_gt (pe_callB call_len_str (by rfl) T.m_len PySem.boot_len (pa_cons (pv 0) pa_nil)) pe_int (nomark _)))))) 
        (pss_one (ps_ret pe_bl)
        )
       pss_nil)
      (pss_one (ps_ret (pe_callB (cr_all rfl) (by rfl) T.m_all PyProof.Rows.boot_all (pa_cons (pe_lc (own := [("one", 1), ("other", 2)]) rfl sc_issigns.nd (pi_zipX (by rfl) T.m_zip (pa_cons (pv 0) (pa_cons (pe_slice sl_txt (pv 0) (po_some pe_int) po_none) pa_nil))) (blkOk_by (N := n_issigns) (sc := fnScope s_issigns) (by decide +kernel)) (fun _ _ _ _ _ => (tupK K 2 (pgs_cons (pg_name (i := 1) sc_issigns.nd rfl (.inl rfl)) (pgs_cons (pg_name (i := 2) sc_issigns.nd rfl (.inl rfl)) pgs_nil)))) (fun _ _ _ _ _ => pts_nil) (fun _ _ _ _ _ => (pe_cmpR op_lt_str (pv 1) (pv 2) (nomark _)))) pa_nil)))
      )), ?_⟩
    refine ⟨_, rfl, v, o, rfl, hv, hl, ?_⟩
    cases hv with
    | no ty hk => exact ⟨_, rfl, iteB rfl (k H (Same.refl H))⟩
    | txt l =>
      have hl := hl l rfl
      by_cases ha : Ov az l
      · rw [show rowO az (some l) = true from decide_eq_true ha]
        have hsl : (S l).length ≤ sizeLine := by rw [S_len]; exact Nat.le_trans hl (by decide)
        refine ⟨_, rfl, iteN rfl ?_⟩
        walk_at "s"
        refine ⟨hsl, ?_⟩
        walk_at "s"
        by_cases h1 : l.length < 1
        · refine iteB (by rw [S_len]; exact decide_eq_true (by omega)) ?_
          have e : sgO (some l) = false := decide_eq_false fun h => by have := h.2.1; omega
          rw [e] at k
          exact k H (Same.refl H)
        refine iteN (by rw [S_len]; exact decide_eq_false (by omega)) ?_
        walk_at "s"
        refine ⟨hsl, ?_⟩
        walk_at "s"
        by_cases h3 : 3 < l.length
        · refine iteB (by rw [S_len]; exact decide_eq_true (by omega)) ?_
          have e : sgO (some l) = false := decide_eq_false fun h => by have := h.2.2.1; omega
          rw [e] at k
          exact k H (Same.refl H)
        refine iteN (by rw [S_len]; exact decide_eq_false (by omega)) ?_
        walk_at "s"
        refine ⟨hsl, _, _, .txt (S l), .txt (S (l.drop 1)), rfl, rfl, slice_from (by decide), trivial, trivial, fun D hD => ?_⟩
        have hn : min (l.map fun c => V.str (S [c])).length ((l.drop 1).map fun c => V.str (S [c])).length = l.length - 1 := by
          rw [List.length_map, List.length_map, List.length_drop]; omega
        refine lc_keep (n := min (l.map fun c => V.str (S [c])).length ((l.drop 1).map fun c => V.str (S [c])).length) keep_same walk_zipX hD (by rw [hn]; exact small1000 (by omega)) (fun j y => y = .bl (decide (l.getD j 0 < l.getD (1 + j) 0))) (fun _ _ => ⟨rfl, rfl⟩) (fun i x H2 H3 R hii r1 hy hR => ?_) (fun ys H2 hly hg r1 hDs => ?_)
        · obtain ⟨t, x1, x2, rfl, ht, rfl, e1, e2⟩ := hy
          have e1 : (l.map fun c => V.str (S [c]))[i]? = some x1 := e1
          have e2 : ((l.drop 1).map fun c => V.str (S [c]))[i]? = some x2 := e2
          rw [List.getElem?_map] at e1 e2
          rw [List.getElem?_drop] at e2
          cases q1 : l[i]? with
          | none => rw [q1] at e1; cases e1
          | some c =>
            cases q2 : l[1 + i]? with
            | none => rw [q2] at e2; cases e2
            | some d =>
              rw [q1] at e1; rw [q2] at e2
              cases e1; cases e2
              refine ⟨t, _, rfl, .inl (.inl upd_same), rfl, _, _, rfl, _, _, rfl, rfl, rfl, ?_⟩
              walk_at "s"
              refine hR _ _ (sm_new ht) (congrArg V.bl ?_)
              rw [List.getD_eq_getElem?_getD, List.getD_eq_getElem?_getD, q1, q2]
              show decide (([c] : List Nat) < [d]) = decide (c < d)
              refine decide_eq_decide.mpr ?_
              rw [List.cons_lt_cons_iff]
              exact ⟨fun h => h.elim id fun h => absurd h.2 (by simp), .inl⟩
        · refine ⟨D, (List.range (l.length - 1)).map fun j => decide (l.getD j 0 < l.getD (1 + j) 0), rfl, SqL.of (by rw [← bools_of (hly.trans hn) hg]; exact hDs), ?_⟩
          rw [all_range]
          have e : sgO (some l) = decide (∀ i, i < l.length - 1 → decide (l.getD i 0 < l.getD (1 + i) 0) = true) := by
            refine decide_eq_decide.mpr ⟨fun h i hi => decide_eq_true ?_, fun h => ⟨?_, by omega, by omega, ov_az.mp ha⟩⟩
            · have i1 : i < l.length := by omega
              have i2 : i + 1 < l.length := by omega
              rw [List.getD_eq_getElem?_getD, List.getD_eq_getElem?_getD, Nat.add_comm 1 i, List.getElem?_eq_getElem i1, List.getElem?_eq_getElem i2]
              exact sg_asc h i _ _ (List.getElem?_eq_getElem i1) (List.getElem?_eq_getElem i2)
            · have key : ∀ i, i + 1 < l.length → l.getD i 0 < l.getD (i + 1) 0 := fun i hi => by
                have := of_decide_eq_true (h i (by omega))
                rw [Nat.add_comm 1 i] at this
                exact this
              match l, key with
              | [], _ => exact .nil
              | [a], _ => exact List.pairwise_singleton _ _
              | [a, b], key =>
                have := key 0 (by simp)
                simp at this
                exact .cons (fun x hx => by rw [List.mem_singleton.mp hx]; exact this) (List.pairwise_singleton _ _)
              | [a, b, c], key =>
                have k1 := key 0 (by simp)
                have k2 := key 1 (by simp)
                simp at k1 k2
                exact .cons (fun x hx => by rcases List.mem_cons.mp hx with rfl | hx; exact k1; rw [List.mem_singleton.mp hx]; omega) (.cons (fun x hx => by rw [List.mem_singleton.mp hx]; exact k2) (List.pairwise_singleton _ _))
              | _ :: _ :: _ :: _ :: _, _ => simp at h3
          rw [← e]
          exact k H2 r1
      · rw [show rowO az (some l) = false from decide_eq_false ha]
        refine ⟨_, rfl, iteB rfl ?_⟩
        have e : sgO (some l) = false := decide_eq_false fun h => ha (ov_az.mpr h.2.2.2)
        rw [e] at k
        exact k H (Same.refl H)
end
end Toy
set_option maxHeartbeats 2000000
namespace Toy
open PySem L2 C8 SX LX
local macro_rules | `(tactic| walk_at "c") => `(tactic| refine And.intro (by first | (show (0 : Int) < _; omega) | exact Or.inr ⟨by decide, by decide⟩ | exact Or.inl ⟨by decide, by decide⟩ | (exact ⟨by omega, by omega⟩)) ?_)
local macro_rules | `(tactic| walk_at "s1") => `(tactic| first | refine ⟨_, rfl, ?_⟩ | refine ⟨_, _, rfl, rfl, ?_⟩ | refine .inl ⟨_, rfl, ?_⟩ | walk_at "c")
local macro_rules | `(tactic| walk_at "ix") => `(tactic| refine ⟨_, _, _, _, rfl, rfl, SqL.of (by first | assumption | exact upd_same), rfl, ?_⟩)
local macro_rules | `(tactic| walk_at "s") => `(tactic| repeat (walk_at "s1"))
mutual
def okD : PyData → Bool
  | .str s => decide (s.length ≤ 40) && s.cps.toList.all fun c => decide (c < 1114112)
  | .list ds => decide (ds.length ≤ 20) && okAll ds
  | .tuple ds => decide (ds.length ≤ 20) && okAll ds
  | _ => true
def okAll : List PyData → Bool
  | [] => true
  | d :: ds => okD d && okAll ds
end
theorem okAll_iff : ∀ {ds : List PyData}, okAll ds = true ↔ ∀ d ∈ ds, okD d = true
  | [] => by simp [okAll]
  | d :: ds => by
    have ih := okAll_iff (ds := ds)
    simp only [okAll, Bool.and_eq_true, List.forall_mem_cons, ih]
theorem okD_lst {ds : List PyData} (hl : ds.length ≤ 20) (h : ∀ d ∈ ds, okD d = true) : okD (.list ds) = true := by
  unfold okD; rw [decide_eq_true hl, okAll_iff.mpr h]; rfl
theorem okD_tup {ds : List PyData} (hl : ds.length ≤ 20) (h : ∀ d ∈ ds, okD d = true) : okD (.tuple ds) = true := by
  unfold okD; rw [decide_eq_true hl, okAll_iff.mpr h]; rfl
def itemsD : PyData → Option (List PyData)
  | .list ds => some ds
  | .tuple ds => some ds
  | _ => none
theorem okD_items {d : PyData} {ds : List PyData} (h : okD d = true) (e : itemsD d = some ds) : ds.length ≤ 20 ∧ ∀ x ∈ ds, okD x = true := by
  cases d with
  | list xs => cases e; unfold okD at h; rw [Bool.and_eq_true, decide_eq_true_eq] at h; exact ⟨h.1, okAll_iff.mp h.2⟩
  | tuple xs => cases e; unfold okD at h; rw [Bool.and_eq_true, decide_eq_true_eq] at h; exact ⟨h.1, okAll_iff.mp h.2⟩
  | _ => cases e
theorem okD_sm {d : PyData} (h : okD d = true) : Sm (txtO d) := fun l e => by
  cases d with
  | str s =>
    cases e
    unfold okD at h
    rw [Bool.and_eq_true, decide_eq_true_eq] at h
    have : s.cps.toList.length = s.length := Array.length_toList
    omega
  | _ => cases e
theorem okD_text {l : List Nat} (h : okD (.str (S l)) = true) : l.length ≤ 40 ∧ ∀ c ∈ l, c < 1114112 := by
  unfold okD at h
  rw [Bool.and_eq_true, decide_eq_true_eq, S_len] at h
  refine ⟨h.1, fun c hc => ?_⟩
  have := List.all_eq_true.mp h.2 c (by simpa [S] using hc)
  exact of_decide_eq_true this
theorem bx_wo {b : Addr} {B : List Addr} {H H' : Hp} (s : Bx b H H') (h : b ∈ B) : Same (wo B H) (wo B H') := fun a o e => let ⟨e, n⟩ := of_wo e; wo_get (s.1 _ _ (fun z => n (by rw [z]; exact h)) e) n
theorem live_bx {b : Addr} {B : List Addr} {H H' : Hp} (l : Liv B H) (s : Bx b H H') : Liv B H' := fun c hc e => by
  by_cases n : c = b
  · subst n; obtain ⟨o, h, _⟩ := s.2; rw [h] at e; cases e
  · cases q : H c with
    | none => exact l c hc q
    | some o => rw [s.1 _ _ n q] at e; cases e
theorem dpa_ex {K : PySem.W.Frag} {H : Hp} {P : PyData → Prop} : ∀ {ys : List V}, (∀ (j : Nat) y, ys[j]? = some y → ∃ d, Dp K H y d ∧ P d) → ∃ ds, DpAll K H ys ds ∧ ∀ d ∈ ds, P d
  | [], _ => ⟨[], .nil, fun _ h => nomatch h⟩
  | y :: ys, h => by
    obtain ⟨d, h1, h2⟩ := h 0 y rfl
    obtain ⟨ds, h3, h4⟩ := dpa_ex (ys := ys) fun j z e => h (j + 1) z e
    exact ⟨d :: ds, .cons h1 h3, fun x hx => by rcases List.mem_cons.mp hx with rfl | hx; exact h2; exact h4 x hx⟩
section
variable {P : Program} {w : World} {K : PySem.W.Frag} {mg : Str → Option Value} {base : Heap}
def dAny : List PyData := [.none, .bool true, .bool false, .int 0, .int 1, .int (-2), .int 1000000000, .str "", .str "a", .str "ab", .str "xx", .str "row", .str "[a,b]", .str "'a'", .tuple [], .list [], .str "A", .str "house ab"]
theorem any_ok : ∀ d ∈ dAny, okD d = true := by decide +kernel
abbrev s_any : Stmt := top 25
abbrev n_any : List Str := ["box", "deep", "some", "found", "turn"]
theorem sc_any : FnScope n_any ["box", "deep"] (fnScope s_any) := fnScope_by (by decide +kernel)
def spAnyAt (K : PySem.W.Frag) (m : Nat) : Sp := fun vs H Q _ => ∃ (b : Addr) (B : List Addr), vs = [.ref b, .int m] ∧ BoxAt b H ∧ b ∈ B ∧ Liv B H ∧ ∀ (v : V) (d : PyData) (H' : Hp), Bx b H H' → Dp K (wo B H') v d → okD d = true → Q v H'
def spAny (K : PySem.W.Frag) (n : Nat) : Sp := fun vs H Q E => ∃ m, m < n ∧ spAnyAt K m vs H Q E
theorem ok_any0 {f : Addr} {fd : FuncData} (F : Def K mg "_law_any" s_any f fd) (b : Binds K fd ["box", "deep"] []) : Cal P w K mg base 3 "_law_any" (spAny K 0) [] :=
  ⟨f, fd, ["box", "deep"], [], ⟨fun _ _ _ _ h => absurd h.choose_spec.1 (Nat.not_lt_zero _), fun _ _ _ _ _ _ _ _ _ _ _ _ _ h => absurd h.choose_spec.1 (Nat.not_lt_zero _)⟩, F.mgf, F.kp, b, .nil⟩
theorem ok_any1 (T : BT mg) (c_choose : Cal P w K mg base 1 "_law_choose" spChoose []) (c_one_of : Cal P w K mg base 2 "_law_one_of" (spOne K) []) {n : Nat} (c_any : Cal P w K mg base (3 + n) "_law_any" (spAny K n) []) {f : Addr} {fd : FuncData} (F : Def K mg "_law_any" s_any f fd) (b : Binds K fd ["box", "deep"] []) : Cal P w K mg base (3 + n + 1) "_law_any" (spAny K (n + 1)) [] := by
  refine cal0 F b .nil sc_any (fun vs H Q E h => ?_) (fun cdv A outer s H vs Q E hr h => ?_)
  · obtain ⟨m, _, b, B, rfl, _⟩ := h; rfl
  · obtain ⟨m, hmn, b, B, rfl, hb, hbB, lb, k⟩ := h
    refine ⟨_, (pss_cons (ps_set (i := 2) sc_any.nd rfl (.inl rfl) (pe_lst (pa_cons pe_non (pa_cons pe_bl (pa_cons pe_bl (pa_cons pe_int (pa_cons pe_int (pa_cons (pe_un un_neg pe_int) (pa_cons (pe_op op_pow pe_int pe_int) (pa_cons pe_str (pa_cons pe_str (pa_cons pe_str (pa_cons pe_str (pa_cons pe_str (pa_cons pe_str (pa_cons pe_str (pa_cons (pe_tup pa_nil) (pa_cons (pe_lst pa_nil) (pa_cons pe_str (pa_cons pe_str pa_nil))))))))))))))))))))
      (pss_cons (ps_if (PW.pt (pw_or (pt_cmpR op_eq (pv 1) pe_int (nomark _)) (pw_or1 (pt_cmpR op_gt (pe_c c_choose hr (by first | decide | omega) (by rfl) (pa_cons (pv 0) (pa_cons pe_int pa_nil))) pe_int (nomark _))))) 
        (pss_one (ps_ret (pe_c c_one_of hr (by first | decide | omega) (by rfl) (pa_cons (pv 0) (pa_cons (pv 2) pa_nil))))
        )
       pss_nil)
      (pss_cons (ps_setLc (i := 3) (own := [("turn", 4)]) rfl sc_any.nd rfl rfl rfl (pi_range1 (by rfl) T.m_range (pa_cons (pe_c c_choose hr (by first | decide | omega) (by rfl) (pa_cons (pv 0) (pa_cons pe_int pa_nil))) pa_nil)) (blkOk_by (N := n_any) (sc := fnScope s_any) (by decide +kernel)) (fun _ _ _ _ _ => (pg_name (i := 4) sc_any.nd rfl (.inl rfl))) (fun _ _ _ _ _ => pts_nil) (fun _ _ _ _ _ => (pe_c c_any hr (by first | decide | omega) (by rfl) (pa_cons (pv 0) (pa_cons (pe_op op_sub (pv 1) pe_int) pa_nil)))))
      (pss_one (ps_ret (pe_ifExp (pt_cmpR op_eq (pe_c c_choose hr (by first | decide | omega) (by rfl) (pa_cons (pv 0) (pa_cons pe_int pa_nil))) pe_int (nomark _)) (pv 3) (pe_callTy (tupleK K) (by rfl) T.m_tuple PyProof.Rows.boot_tuple (pa_cons (pv 3) pa_nil))))
      )))), ?_⟩
    unfold tSeq tAsg
    dsimp only
    have neg : ∀ σ H', RD K B (tUn (rU fun i => V.int (-i)) (tC (V.int 2))) (.int (-2)) σ H' := fun σ H' _ Q q => ⟨2, rfl, q _ _ (Same.refl _) (.int _)⟩
    have pow : ∀ σ H', RD K B (tOp (rI CPow fun i j => V.int (i ^ j.toNat)) (tC (V.int 10)) (tC (V.int 9))) (.int 1000000000) σ H' := fun σ H' _ Q q => ⟨10, 9, rfl, rfl, ⟨by decide, by decide, by decide⟩, q _ _ (Same.refl _) (.int _)⟩
    refine rd_lstA (K := K) (B := B) (ds := dAny) lb ?_ (by decide) fun p xs H1 s1 hp hp1 ha => gn1 ?_
    · repeat (first | exact rd_nil | exact rd_non | exact rd_int | exact rd_bl | exact rd_str | exact neg _ _ | exact pow _ _ | refine rd_cons ?_ fun _ _ _ => ?_ | refine rd_lst ?_ | refine rd_tup ?_)
    have hb1 : BoxAt b H1 := let ⟨o, e, h⟩ := hb; ⟨o, s1 _ _ e, h⟩
    have pb : p ≠ b := box_ne hb hp
    have hB1 : Bx b H H1 := bk_same s1 hb
    have hlen := dpa_len ha
    have pick : ∀ H2 (hB : Bx b H1 H2), tCall (spOne K) [] C8.E0 (tCons (tVar 0) (tCons (tVar 2) tNil)) (List.set (L2.start n_any [V.ref b, V.int (m : Nat)]) 2 (some (V.ref p))) H2 Q := fun H2 hB => by
      refine ⟨_, rfl, _, rfl, b, p, xs, rfl, hB.2, pb, SqL.of (hB.1 _ _ pb hp1), by rw [hlen]; decide, by rw [hlen]; decide, fun v H3 hv hB3 => ?_⟩
      obtain ⟨i, hi⟩ := List.getElem?_of_mem hv
      obtain ⟨d, hd, hdp⟩ := dpa_at ha i v hi
      exact k v d H3 ((hB1.trans hB).trans hB3) (dp_same (bx_wo (hB.trans hB3) hbB) _ _ hdp) (any_ok d (List.mem_of_getElem? hd))
    match m, hmn, k, pick with
    | 0, _, k, pick => exact ⟨_, rfl, rfl, _, rfl, iteB (by simp) (iteT (pick H1 (bk_same (Same.refl _) hb1)))⟩
    | m + 1, hmn, k, pick =>
      refine ⟨_, rfl, rfl, _, rfl, iteN (decide_eq_false fun h => by have := V.int.inj h; omega) ?_⟩
      refine ⟨_, rfl, b, 3, rfl, hb1, by omega, by omega, fun d H2 d0 d1 hB2 => ?_⟩
      refine ⟨_, _, rfl, rfl, _, rfl, ?_⟩
      by_cases hd : 0 < d
      · exact iteB (decide_eq_true hd) (pick H2 hB2)
      refine iteN (decide_eq_false hd) ?_
      refine ⟨_, rfl, b, 3, rfl, hB2.2, by omega, by omega, fun d2 H3 e0 e1 hB3 => ⟨d2, rfl, by omega, by omega, fun D hD => ?_⟩⟩
      have hB03 := (hB1.trans hB2).trans hB3
      have l3 : Liv B H3 := live_bx lb hB03
      have DB : D ∉ B := l3.new hD
      have Db : D ≠ b := box_ne hB3.2 hD
      refine lc_keepH (keep_bk hB3.2) (walk_range (lo := 0) (n := d2.toNat)) hD (Nat.lt_of_lt_of_le (show d2.toNat < 3 by omega) (by decide)) (fun j y H => ∃ d, Dp K (wo (D :: B) H) y d ∧ okD d = true) (fun _ _ => trivial)
        (fun _ _ _ _ _ r ⟨d, h, f⟩ => ⟨d, dp_same (bx_wo r (List.mem_cons_of_mem _ hbB)) _ _ h, f⟩) (fun _ _ _ _ _ _ _ ⟨d, h, f⟩ => ⟨d, by rw [wo_upd_in List.mem_cons_self]; exact h, f⟩) (fun j x H4 H5 acc R hj r hDa hy hR => ?_) (fun ys H4 hly hg r hDs => ?_)
      · obtain ⟨rfl, rfl⟩ := hy
        refine ⟨rfl, ?_⟩
        refine ⟨_, rfl, _, rfl, _, _, rfl, rfl, m, by omega, b, D :: B, ?_, r.2, List.mem_cons_of_mem _ hbB, (live_bx l3 r).cons hDa, fun v d H' hB hd hf => hR v H' hB ⟨d, hd, hf⟩⟩
        show [V.ref b, V.int (((m + 1 : Nat) : Int) - 1)] = [V.ref b, V.int (m : Nat)]
        rw [show (((m + 1 : Nat) : Int) - 1) = (m : Nat) by omega]
      obtain ⟨ds, hds, hfs⟩ := dpa_ex hg
      have hl2 : ds.length ≤ 2 := by rw [← dpa_len hds, hly]; omega
      have hB04 := hB03.trans r
      have hDw : wo B H4 D = some (.lst ys) := wo_get hDs DB
      have hds' := dpa_same (wo_cons (b := D) (B := B) (H := H4)) _ _ hds
      refine gn1 ?_
      refine ⟨_, rfl, b, 2, rfl, r.2, by omega, by omega, fun d3 H5 g0 g1 hB5 => ⟨rfl, _, rfl, ?_⟩⟩
      have hD5 : wo B H5 D = some (.lst ys) := bx_wo hB5 hbB _ _ hDw
      have hds5 := dpa_same (bx_wo hB5 hbB) _ _ hds'
      by_cases h3 : d3 = 0
      · refine iteB (by rw [h3]; simp) ?_
        exact ⟨_, rfl, k _ (.list ds) H5 (hB04.trans hB5) (.lst (SqL.of hD5) hds5) (okD_lst (by omega) hfs)⟩
      · refine iteN (decide_eq_false fun h => h3 (V.int.inj h)) ?_
        refine ⟨_, rfl, D, ys, rfl, .inl ⟨SqL.of (wo_sub _ _ hD5), fun l hl => ?_⟩⟩
        have s6 := sm_new (o := .tup ys) hl
        exact k _ (.tuple ds) _ ((hB04.trans hB5).trans (bk_same s6 hB5.2)) (.tup (SqT.of (wo_get upd_same ((live_bx lb (hB04.trans hB5)).new hl))) (dpa_same (wo_same s6) _ _ hds5)) (okD_tup (by omega) hfs)
theorem ok_any (T : BT mg) (c_choose : Cal P w K mg base 1 "_law_choose" spChoose []) (c_one_of : Cal P w K mg base 2 "_law_one_of" (spOne K) []) {f : Addr} {fd : FuncData} (F : Def K mg "_law_any" s_any f fd) (b : Binds K fd ["box", "deep"] []) : ∀ n, Cal P w K mg base (3 + n) "_law_any" (spAny K n) []
  | 0 => ok_any0 F b
  | n + 1 => ok_any1 T c_choose c_one_of (ok_any T c_choose c_one_of F b n) F b
end
end Toy
set_option maxHeartbeats 4000000
namespace LX
open PySem PySem.Spec PyProof.Rows L2 C8 SX
structure PrX (P : Program) (w : World) (K : PySem.W.Frag) (mg : Str → Option Value) (base : Heap) (k : Nat) (C : Addr) (f : Str) (sp : Sp) : Prop where
  ex : ∃ (p g : Addr) (fd : FuncData) (ps : List Str), Cls K C ∧ PropOf K C f p g ∧ FnOk P w K mg base C8.CX0 k g fd ps sp ∧ Binds K fd ps []
theorem pe_prX {X : Cx} {k j : Nat} {C : Addr} {f : Str} {sp : Sp} {e : Expr} {pos : Pos} {ta : TE} (c : PrX X.prog X.w X.K X.mg X.base k C f sp) (hr : Room j X.A) (hk : k + 1 ≤ j) (he : PE X e ta) (hab : attributeBase e f X.env (eval e X.env) = eval e X.env := by rfl) :
    PE X (.Attribute e f pos) (tProp C sp [] C8.E0 ta) := by
  obtain ⟨p, g, fd, ps, cl, hp, F, hb⟩ := c.ex
  exact pe_prop he cl hp F (hr.mono hk) hb .nil C8.pass0 hab
theorem starts1 (l : List Nat) (c : Nat) : Txt.startswith (S l) (S [c]) = decide (l.head? = some c) := by
  unfold Txt.startswith
  rw [PySem.StrLaws.subAt_eq]
  have e1 : (S l).cps.toList = l := by simp [S]
  have e2 : (S [c]).cps.toList = [c] := by simp [S]
  rw [e1, e2, S_len, S_len]
  cases l with
  | nil => rfl
  | cons d r => by_cases h : d = c <;> simp [h]
theorem ends1 (l : List Nat) (c : Nat) : Txt.endswith (S l) (S [c]) = decide (l.getLast? = some c) := by
  unfold Txt.endswith
  rw [PySem.StrLaws.subAt_eq]
  have e1 : (S l).cps.toList = l := by simp [S]
  have e2 : (S [c]).cps.toList = [c] := by simp [S]
  rw [e1, e2, S_len, S_len]
  rcases List.eq_nil_or_concat l with rfl | ⟨r, d, rfl⟩
  · rfl
  · by_cases h : d = c <;> simp [h]
theorem slice_mid (c d : Nat) (a : List Nat) : Txt.slice (S (c :: (a ++ [d]))) (some 1) (some (-1)) = S a := by
  have hl : (S (c :: (a ++ [d]))).length = a.length + 2 := by rw [S_len]; simp
  have e0 : Txt.slice (S (c :: (a ++ [d]))) (some 1) (some (-1)) = Txt.slice (S (c :: (a ++ [d]))) (some 1) (some ((a.length : Int) + 1)) := by
    have e := PySem.StrLaws.sliceText_neg_hi (S (c :: (a ++ [d]))) (some 1) (j := -1) (by omega) (by rw [hl]; omega)
    rw [hl] at e
    refine Eq.trans e ?_
    rw [show (-1 + ((a.length + 2 : Nat) : Int)) = (a.length : Int) + 1 by omega]
    rfl
  rw [e0]
  have e := beq_iff_eq.mp (PyProof.Rows.slice_closes (x := S (c :: (a ++ [d]))) (i := 1) (j := (a.length : Int) + 1) ⟨by omega, by omega, by simp [S]; omega⟩)
  refine e.trans (TL.ext_tl ?_)
  show (((S (c :: (a ++ [d]))).cps.toList.drop (1 : Int).toNat).take ((a.length : Int) + 1 - 1).toNat) = a
  rw [show (1 : Int).toNat = 1 from rfl, show ((a.length : Int) + 1 - 1).toNat = a.length by omega, show (S (c :: (a ++ [d]))).cps.toList = c :: (a ++ [d]) by simp [S]]
  simp
end LX
set_option maxHeartbeats 2000000
namespace Toy
open PySem L2 C8 SX LX
local macro_rules | `(tactic| walk_at "c") => `(tactic| refine And.intro (by first | (show (0 : Int) < _; omega) | exact Or.inr ⟨by decide, by decide⟩ | exact Or.inl ⟨by decide, by decide⟩ | (exact ⟨by omega, by omega⟩)) ?_)
local macro_rules | `(tactic| walk_at "s1") => `(tactic| first | refine ⟨_, rfl, ?_⟩ | refine ⟨_, _, rfl, rfl, ?_⟩ | refine .inl ⟨_, rfl, ?_⟩ | walk_at "c")
local macro_rules | `(tactic| walk_at "ix") => `(tactic| refine ⟨_, _, _, _, rfl, rfl, SqL.of (by first | assumption | exact upd_same), rfl, ?_⟩)
local macro_rules | `(tactic| walk_at "s") => `(tactic| repeat (walk_at "s1"))
structure XQ (K : PySem.W.Frag) (mg : Str → Option Value) (n : Str) (C : Addr) : Prop where
  x : XC K C
  g : mg n = some (.ref C)
structure XN (K : PySem.W.Frag) (mg : Str → Option Value) (n : Str) (C : Addr) : Prop where
  q : PySem.W.excIn K C veT "ValueError.__new__" = true
  g : mg n = some (.ref C)
  k : PySem.W.keepIn K (.ref C) = true
  hb : PySem.W.subIn K (.ref C) (.type "BaseException") = some true
  ht : PySem.W.typeIn K (.ref C) = some (.type "type")
theorem XN.r {K : PySem.W.Frag} {mg : Str → Option Value} {n : Str} {C : Addr} (h : XN K mg n C) {X : Cx} (hX : X.K = K := by rfl) : Raises X (.ref C) := raises_own (by rw [hX]; exact h.hb) (by rw [hX]; exact h.ht)
def spXInit (C : Addr) (f : Str) : Sp := fun vs H Q _ => ∃ (a : Addr) (v : V), vs = [.ref a, v] ∧ H a = some (exo a C none) ∧ ∀ dx, H dx = none → dx ≠ a → Q .non (upd (upd H dx (exd dx [(f, v)])) a (exo a C (some dx)))
theorem exo_ne_exd {a C d : Addr} {dd : Option Addr} {fs : List (Str × V)} {H : Hp} (h1 : H a = none) : (upd H a (exo a C dd)) a ≠ none := by rw [upd_same]; simp
theorem raise_read {C : Addr} {f : Str} {v : V} {H : Hp} {Q : XK} (k : ∀ d, H d = none → Q (.ref C) (some d) (upd H d (.xd [(f, v)]))) (a : Addr) (ha : H a = none) :
    spXInit C f (.ref a :: ([v] ++ [])) (upd H a (exo a C none)) (fun v H2 => v = .non ∧ ∃ (d : Addr) (fs : List (Str × V)), H2 a = some (exo a C (some d)) ∧ H2 d = some (exd d fs) ∧ H d = none ∧ Q (.ref C) (some d) (upd (del H2 a) d (.xd fs))) (fun _ _ _ => False) := by
  refine ⟨a, v, rfl, upd_same, fun dx hdx nda => ⟨rfl, dx, [(f, v)], upd_same, by rw [upd_ne nda, upd_same], by rw [upd_ne nda] at hdx; exact hdx, ?_⟩⟩
  rw [upd_ne nda] at hdx
  have e : upd (del (upd (upd (upd H a (exo a C none)) dx (exd dx [(f, v)])) a (exo a C (some dx))) a) dx (.xd [(f, v)]) = upd H dx (.xd [(f, v)]) := by
    funext b
    by_cases h1 : b = dx
    · rw [h1, upd_same, upd_same]
    · rw [upd_ne h1, upd_ne h1]
      by_cases h2 : b = a
      · rw [h2, del_same, ha]
      · rw [del_ne h2, upd_ne h2, upd_ne h1, upd_ne h2]
  rw [e]
  exact k dx hdx
section
variable {P : Program} {w : World} {K : PySem.W.Frag} {mg : Str → Option Value} {base : Heap}
abbrev s_xic : Stmt := inClass (top 3) 0
abbrev n_xic : List Str := ["self", "word"]
theorem sc_xic : FnScope n_xic ["self", "word"] (fnScope s_xic) := fnScope_by (by decide +kernel)
theorem ok_xic {C : Addr} (x_ : XQ K mg "InvalidChange" C) (n_ : PySem.W.findIn K (.ref C) "word" = some none) {f : Addr} (iC : PySem.W.findIn K (.ref C) "__init__" = some (some (.ref f))) (tI : PySem.W.typeIn K (.ref f) = some (.type "function")) {fd : FuncData} (F : C8.Fun K "__init__" "InvalidChange.__init__" s_xic f fd) (b : Binds K fd ["self", "word"] []) : RaiX P w K mg base 1 "InvalidChange" C (spXInit C "word") := by
  refine raiX x_.x iC tI x_.g F b sc_xic (fun vs H Q E h => ?_) (fun cdv A outer s H vs Q E hr h => ?_)
  · obtain ⟨a, v, rfl, _⟩ := h; rfl
  · obtain ⟨a, v, rfl, ha, k⟩ := h
    refine ⟨_, (pss_one (ps_ostG (pv 0) (pv 1))
      ), ?_⟩
    exact ⟨_, rfl, _, rfl, a, C, rfl, x_.x, n_, ha, fun dx h1 h2 => k dx h1 h2⟩
end
structure XG (mg : Str → Option Value) (n : Str) (C : Addr) : Prop where
  g : mg n = some (.ref C)
theorem items_no {d : PyData} (h : isSeqD d = false) : itemsD d = none := by
  cases d <;> first | rfl | cases h
theorem items_seq (b : Bool) (ds : List PyData) : itemsD (seqD b ds) = some ds := by cases b <;> rfl
def rowsO (sg : List Nat) (d : PyData) : Bool := match itemsD d with
  | some ds => ds.all fun x => rowO sg (txtO x)
  | none => false
theorem dpa_txs {K : PySem.W.Frag} {H : Hp} : ∀ {ims : List (List Nat)} {xs : List V}, DpAll K H xs (ims.map fun l => .str (S l)) → xs = txs ims
  | [], _, h => by cases h; rfl
  | l :: ims, _, h => by
    cases h with
    | cons h1 h2 => cases h1; rw [dpa_txs h2]; rfl
theorem rows_of {sg : List Nat} : ∀ {ds : List PyData}, (ds.all fun x => rowO sg (txtO x)) = true → ∃ ims : List (List Nat), ds = ims.map (fun l => .str (S l)) ∧ ∀ l ∈ ims, Ov sg l
  | [], _ => ⟨[], rfl, fun _ h => nomatch h⟩
  | d :: ds, h => by
    rw [List.all_cons, Bool.and_eq_true] at h
    obtain ⟨ims, rfl, h2⟩ := rows_of (ds := ds) h.2
    cases d with
    | str s => exact ⟨s.cps.toList :: ims, by rw [List.map_cons, S_self], fun l hl => by rcases List.mem_cons.mp hl with rfl | hl; exact of_decide_eq_true h.1; exact h2 l hl⟩
    | _ => cases h.1
theorem seqL_put {K : PySem.W.Frag} {H : Hp} {a p C dx : Addr} {fs : List (Str × V)} {xs : List V} (o : HO) (h : SqL K H p xs) (ha : H a = some (.ins C dx fs)) : SqL K (upd H a o) p xs := by
  rcases h with (h | ⟨o', h⟩) | h
  · exact .inl (.inl (by rw [upd_ne (fun e => by rw [e, ha] at h; cases h)]; exact h))
  · exact .inl (.inr ⟨o', by rw [upd_ne (fun e => by rw [e, ha] at h; cases h)]; exact h⟩)
  · exact .inr h
theorem seqT_put {K : PySem.W.Frag} {H : Hp} {a p C dx : Addr} {fs : List (Str × V)} {xs : List V} (o : HO) (h : SqT K H p xs) (ha : H a = some (.ins C dx fs)) : SqT K (upd H a o) p xs := by
  rcases h with (h | ⟨o', h⟩) | h
  · exact .inl (.inl (by rw [upd_ne (fun e => by rw [e, ha] at h; cases h)]; exact h))
  · exact .inl (.inr ⟨o', by rw [upd_ne (fun e => by rw [e, ha] at h; cases h)]; exact h⟩)
  · exact .inr h
def chF (sg : List Nat) (r : Addr) : List (Str × V) := [("signs", .str (S sg)), ("rows", .ref r)]
def Chg (K : PySem.W.Frag) (C : Addr) (H : Hp) (a : Addr) (sg : List Nat) (ims : List (List Nat)) : Prop := ∃ dx r : Addr, H a = some (.ins C dx (chF sg r)) ∧ SqT K H r (txs ims)
theorem Chg.same {K : PySem.W.Frag} {C a : Addr} {H H' : Hp} {sg : List Nat} {ims : List (List Nat)} (s : Same H H') (h : Chg K C H a sg ims) : Chg K C H' a sg ims := let ⟨dx, r, h1, h2⟩ := h; ⟨dx, r, s _ _ h1, sm_seqT s h2⟩
theorem n_sr : ¬ (("signs" : Str) = "rows") := by decide +kernel
theorem chF_signs (sg : List Nat) (r : Addr) : (chF sg r).lookup ("signs" : Str) = some (.str (S sg)) := by
  unfold chF; rw [List.lookup_cons_self]
theorem chF_rows (sg : List Nat) (r : Addr) : (chF sg r).lookup ("rows" : Str) = some (.ref r) := by
  have e : (("rows" : Str) == ("signs" : Str)) = false := by decide +kernel
  unfold chF; rw [List.lookup_cons, e, List.lookup_cons_self]
theorem chF_no (sg : List Nat) (r : Addr) {m : Str} (h1 : (m == ("signs" : Str)) = false) (h2 : (m == ("rows" : Str)) = false) : (chF sg r).lookup m = none := by
  unfold chF; rw [List.lookup_cons, h1, List.lookup_cons, h2]; rfl
structure CC (K : PySem.W.Frag) (C : Addr) : Prop where
  cl : Cls K C
  nS : NoAttr K C "signs"
  nR : NoAttr K C "rows"
def Imz (sg : List Nat) (ims : List (List Nat)) : Prop := ims.length = sg.length ∧ ∀ l ∈ ims, Ov sg l ∧ l.length ≤ 40
def dueD (d0 d1 : PyData) : Option Str := match txtO d0 with
  | some sg => if Sg sg then (if rowsO sg d1 = true ∧ ((itemsD d1).getD []).length = sg.length then none else some "rows") else some "signs"
  | none => some "signs"
theorem due_signs {d0 d1 : PyData} (h : sgO (txtO d0) = false) : dueD d0 d1 = some "signs" := by
  unfold dueD
  cases e : txtO d0 with
  | none => rfl
  | some sg => rw [e] at h; exact if_neg (of_decide_eq_false h)
theorem sg_of {d : PyData} (h : sgO (txtO d) = true) : ∃ sg, d = .str (S sg) ∧ Sg sg := by
  cases d with
  | str s => exact ⟨s.cps.toList, by rw [S_self], of_decide_eq_true h⟩
  | _ => cases h
theorem txt_S (l : List Nat) : txtO (.str (S l)) = some l := by simp [txtO, S]
theorem due_rows {sg : List Nat} {d1 : PyData} (hs : Sg sg) (h : ¬ (rowsO sg d1 = true ∧ ((itemsD d1).getD []).length = sg.length)) : dueD (.str (S sg)) d1 = some "rows" := by
  unfold dueD; rw [txt_S]; exact (if_pos hs).trans (if_neg h)
theorem due_none {sg : List Nat} {d1 : PyData} (hs : Sg sg) (h : rowsO sg d1 = true ∧ ((itemsD d1).getD []).length = sg.length) : dueD (.str (S sg)) d1 = none := by
  unfold dueD; rw [txt_S]; exact (if_pos hs).trans (if_pos h)
section
variable {P : Program} {w : World} {K : PySem.W.Frag} {mg : Str → Option Value} {base : Heap}
abbrev s_isrows : Stmt := top 11
abbrev n_isrows : List Str := ["value", "signs", "row"]
theorem sc_isrows : FnScope n_isrows ["value", "signs"] (fnScope s_isrows) := fnScope_by (by decide +kernel)
def spIsRowsD (K : PySem.W.Frag) : Sp := fun vs H Q _ => ∃ (v : V) (d : PyData) (sg : List Nat), vs = [v, .str (S sg)] ∧ Dp K H v d ∧ (∀ ds, itemsD d = some ds → ds.length ≤ 60 ∧ ∀ x ∈ ds, Sm (txtO x)) ∧ ∀ H', Same H H' → Q (.bl (rowsO sg d)) H'
theorem ok_isrowsD (T : BT mg) (c_isseq : Cal P w K mg base 1 "is_sequence" (spIsSeqD K) []) (c_isrow : Cal P w K mg base 1 "is_row" (spIsRowD K) []) {f : Addr} {fd : FuncData} (F : Def K mg "is_rows" s_isrows f fd) (b : Binds K fd ["value", "signs"] []) : Cal P w K mg base 2 "is_rows" (spIsRowsD K) [] := by
  refine cal0 F b .nil sc_isrows (fun vs H Q E h => ?_) (fun cdv A outer s H vs Q E hr h => ?_)
  · obtain ⟨v, d, sg, rfl, _⟩ := h; rfl
  · obtain ⟨v, d, sg, rfl, hd, few, k⟩ := h
    refine ⟨_, (pss_one (ps_ret (pe_and (pe_c c_isseq hr (by first | decide | omega) (by rfl) (pa_cons (pv 0) pa_nil)) (pe_one (pe_callB (cr_all rfl) (by rfl) T.m_all PyProof.Rows.boot_all (pa_cons (pe_lc (own := [("row", 2)]) rfl sc_isrows.nd (pi_seq (pv 0)) (blkOk_by (N := n_isrows) (sc := fnScope s_isrows) (by decide +kernel)) (fun _ _ _ _ _ => (pg_name (i := 2) sc_isrows.nd rfl (.inl rfl))) (fun _ _ _ _ _ => pts_nil) (fun _ _ _ _ _ => (pe_c c_isrow hr (by first | decide | omega) (by rfl) (pa_cons (pv 2) (pa_cons (pv 1) pa_nil))))) pa_nil)))))
      ), ?_⟩
    refine ⟨_, rfl, v, d, rfl, hd, fun H1 s1 => ?_⟩
    cases hb : isSeqD d with
    | false =>
      refine ⟨_, rfl, iteN rfl ?_⟩
      have e : rowsO sg d = false := by unfold rowsO; rw [items_no hb]
      rw [e] at k
      exact k H1 s1
    | true =>
      obtain ⟨b, ds, rfl⟩ := isSeq_of hb
      obtain ⟨p, xs, rfl, hq, ha⟩ := dp_seq (dp_same s1 _ _ hd)
      have hl := dpa_len ha
      obtain ⟨f1, f2⟩ := few ds (items_seq b ds)
      refine ⟨_, rfl, iteB rfl ?_⟩
      refine ⟨_, rfl, p, b, xs, rfl, hq, fun D hD => lc_keep keep_same (walk_seq (K := K) (b := b) (a := p) (xs := xs)) hD (by rw [hl]; exact small1000 (by omega)) (fun j y => ∀ x, ds[j]? = some x → y = .bl (rowO sg (txtO x))) (fun H2 r => hq.same r) (fun i x H2 H3 R hii r1 hy hR => ?_) (fun ys H2 hly hg r1 hDs => ?_)⟩
      · obtain ⟨rfl, e⟩ := hy
        obtain ⟨d, e2, hd2⟩ := dpa_at ha i x e
        refine ⟨rfl, ?_⟩
        refine ⟨_, rfl, _, rfl, x, _, sg, rfl, dp_kv (dp_same r1 _ _ hd2), f2 _ (List.mem_of_getElem? e2), ?_⟩
        exact hR _ _ (Same.refl _) fun z hz => by rw [e2] at hz; cases hz; rfl
      · have eb : ys = (ds.map fun x => rowO sg (txtO x)).map V.bl := by
          rw [List.map_map]
          refine list_map (hly.trans hl) fun j y x e1 e2 => hg j y e1 x e2
        refine ⟨D, ds.map fun x => rowO sg (txtO x), rfl, SqL.of (by rw [← eb]; exact hDs), ?_⟩
        have e : rowsO sg (seqD b ds) = (ds.map fun x => rowO sg (txtO x)).all id := by
          unfold rowsO; rw [items_seq, List.all_map]; rfl
        rw [e] at k
        exact k H2 (s1.trans r1)
theorem few_ok {d : PyData} (h : okD d = true) : ∀ ds, itemsD d = some ds → ds.length ≤ 60 ∧ ∀ x ∈ ds, Sm (txtO x) := fun ds e => ⟨by have := (okD_items h e).1; omega, fun x hx => okD_sm ((okD_items h e).2 x hx)⟩
abbrev s_init : Stmt := inClass (top 13) 0
abbrev n_init : List Str := ["self", "signs", "rows"]
theorem sc_init : FnScope n_init ["self", "signs", "rows"] (fnScope s_init) := fnScope_by (by decide +kernel)
def spInitA (K : PySem.W.Frag) (C CI : Addr) : Sp := fun vs H Q E => ∃ (a dx : Addr) (v0 v1 : V) (d0 d1 : PyData), vs = [.ref a, v0, v1] ∧ H a = some (.ins C dx []) ∧ Dp K H v0 d0 ∧ Dp K H v1 d1 ∧ okD d0 = true ∧ okD d1 = true ∧
  (∀ wd, dueD d0 d1 = some wd → ∀ (d : Addr) (H' : Hp), Same H H' → H' d = some (.xd [("word", .str wd)]) → E (.ref CI) (some d) H') ∧
  (∀ (sg : List Nat) (ims : List (List Nat)), dueD d0 d1 = none → d0 = .str (S sg) → Sg sg → itemsD d1 = some (ims.map fun l => .str (S l)) → Imz sg ims → ∀ H', (∀ b o, b ≠ a → H b = some o → H' b = some o) → Chg K C H' a sg ims → Q .non H')
theorem chF_put (sg : List Nat) (l : Addr) : putF ("rows" : Str) (.ref l) (putF ("signs" : Str) (.str (S sg)) []) = chF sg l := by
  show (if ("signs" : Str) = "rows" then _ else (("signs" : Str), V.str (S sg)) :: putF ("rows" : Str) (.ref l) []) = _
  rw [if_neg n_sr]; rfl
theorem ok_initA {C CI : Addr} (T : BT mg) (CH : CC K C) (c_InvalidChange : RaiX P w K mg base 1 "InvalidChange" CI (spXInit CI "word")) (c_issigns : Cal P w K mg base 3 "is_signs" (spIsSignsD K) []) (c_isrows : Cal P w K mg base 2 "is_rows" (spIsRowsD K) []) {f : Addr} {fd : FuncData} (F : C8.Fun K "__init__" "Change.__init__" s_init f fd) :
    FnOk P w K mg base (L2.CX P w) 4 f fd ["self", "signs", "rows"] (spInitA K C CI) := by
  refine fnX F sc_init (fun vs H Q E h => ?_) (fun cdv A outer s H vs Q E hr h => ?_)
  · obtain ⟨a, dx, v0, v1, d0, d1, rfl, _⟩ := h; rfl
  · obtain ⟨a, dx, v0, v1, d0, d1, rfl, ha, hd0, hd1, o0, o1, kb, kg⟩ := h
    refine ⟨_, (pss_cons (ps_if (pt_not (pt_val (pe_c c_issigns hr (by first | decide | omega) (by rfl) (pa_cons (pv 1) pa_nil)))) 
        (pss_one (ps_raise rfl (takes_of rfl rfl rfl rfl) (pmk_rai c_InvalidChange hr (by decide) (by rfl) (pa_cons pe_str pa_nil)))
        )
       pss_nil)
      (pss_cons (ps_if (PW.pt (pw_or (pt_not (pt_val (pe_c c_isrows hr (by first | decide | omega) (by rfl) (pa_cons (pv 2) (pa_cons (pv 1) pa_nil))))) (pw_or1 (pt_cmpR op_ne (pe_callB (lenK K) (by rfl) T.m_len PySem.boot_len (pa_cons (pv 2) pa_nil)) (pe_callB call_len_str (by rfl) T.m_len PySem.boot_len (pa_cons (pv 1) pa_nil)) (nomark _))))) 
        (pss_one (ps_raise rfl (takes_of rfl rfl rfl rfl) (pmk_rai c_InvalidChange hr (by decide) (by rfl) (pa_cons pe_str pa_nil)))
        )
       pss_nil)
      (pss_cons (ps_fld (pv 0) (pv 1) rfl)
      (pss_one (ps_fld (pv 0) (pe_callTy (tupleK K) (by rfl) T.m_tuple PyProof.Rows.boot_tuple (pa_cons (pv 2) pa_nil)) rfl)
      )))), ?_⟩
    have out : ∀ (wd : Str) (H1 : Hp), dueD d0 d1 = some wd → Same H H1 → ∀ (d : Addr), H1 d = none → E (.ref CI) (some d) (upd H1 d (.xd [("word", .str wd)])) := fun wd H1 e s1 d hd => kb wd e d _ (s1.trans (sm_new hd)) upd_same
    refine ⟨_, rfl, v0, txtO d0, rfl, dp_kv hd0, okD_sm o0, fun H1 s1 => ?_⟩
    cases hs : sgO (txtO d0) with
    | false =>
      refine ⟨_, rfl, iteB rfl ?_⟩
      exact ⟨by decide, raise_read (out _ H1 (due_signs hs) s1)⟩
    | true =>
    obtain ⟨sg, rfl, hsg⟩ := sg_of hs
    have hv0 : v0 = .str (S sg) := by cases hd0; rfl
    subst hv0
    refine ⟨_, rfl, iteN rfl ?_⟩
    refine ⟨_, rfl, _, rfl, v1, d1, sg, rfl, dp_same s1 _ _ hd1, few_ok o1, fun H2 s2 => ?_⟩
    have s12 := s1.trans s2
    cases hrw : rowsO sg d1 with
    | false =>
      refine ⟨_, rfl, iteB rfl ?_⟩
      exact ⟨by decide, raise_read (out _ H2 (due_rows hsg fun h => by rw [hrw] at h; cases h.1) s12)⟩
    | true =>
    have hsq : isSeqD d1 = true := by
      cases hq : isSeqD d1 with
      | true => rfl
      | false => unfold rowsO at hrw; rw [items_no hq] at hrw; cases hrw
    obtain ⟨b, ds, rfl⟩ := isSeq_of hsq
    obtain ⟨p, xs, rfl, hq, hxs⟩ := dp_seq (dp_same s12 _ _ hd1)
    have hl := dpa_len hxs
    refine ⟨_, rfl, iteN rfl ?_⟩
    refine ⟨_, rfl, p, _, rfl, hq.or, _, rfl, _, rfl, by rw [S_len]; exact sz (m := 3) hsg.2.2.1 (by decide), rfl, _, rfl, ?_⟩
    by_cases hn : ¬ ds.length = sg.length
    · refine iteB (by rw [hl, S_len]; simp; omega) ?_
      exact ⟨by decide, raise_read (out _ H2 (due_rows hsg fun h => hn (by have := h.2; rw [items_seq] at this; exact this)) s12)⟩
    have hn := Decidable.not_not.mp hn
    refine iteN (by rw [hl, S_len, hn]; simp) ?_
    have hall : (ds.all fun x => rowO sg (txtO x)) = true := by unfold rowsO at hrw; rw [items_seq] at hrw; exact hrw
    obtain ⟨ims, rfl, hov⟩ := rows_of hall
    have hx := dpa_txs hxs
    subst hx
    have himz : Imz sg ims := ⟨by rw [List.length_map] at hn; exact hn, fun l hl => ⟨hov l hl, (okD_text ((okD_items o1 (items_seq b _)).2 _ (List.mem_map.mpr ⟨l, hl, rfl⟩))).1⟩⟩
    have hdue := due_none (d1 := seqD b (ims.map fun l => .str (S l))) hsg ⟨hrw, by rw [items_seq]; exact hn⟩
    have ha2 := s12 _ _ ha
    refine ⟨_, rfl, _, rfl, a, C, dx, [], rfl, ha2, CH.cl, CH.nS, (by show 0 < 1000; decide), ?_⟩
    have fin : ∀ (l : Addr) (H3 : Hp), (∀ c o, c ≠ a → H2 c = some o → H3 c = some o) → H3 a = some (.ins C dx (chF sg l)) → SqT K H3 l (txs ims) → Q .non H3 := fun l H3 hk h1 h2 => kg sg ims hdue rfl hsg (items_seq b _) himz H3 (fun c o n e => hk c o n (s12 _ _ e)) ⟨dx, l, h1, h2⟩
    cases b with
    | true =>
      refine ⟨_, rfl, p, _, rfl, .inl ⟨seqL_put _ hq ha2, fun l hl => ?_⟩⟩
      have hl2 : H2 l = none := by
        by_cases e : l = a
        · rw [e, upd_same] at hl; cases hl
        · rw [upd_ne e] at hl; exact hl
      have nal : a ≠ l := ne_of_none ha2 hl2
      refine ⟨_, rfl, a, C, dx, _, rfl, (by rw [upd_ne nal, upd_same]), CH.cl, CH.nR, (by show 1 < 1000; decide), ?_⟩
      rw [chF_put]
      refine fin l _ (fun c o n e => ?_) upd_same (SqT.of (by rw [upd_ne nal.symm, upd_same]))
      rw [upd_ne n, upd_ne (ne_of_none e hl2), upd_ne n]
      exact e
    | false =>
      refine ⟨_, rfl, p, _, rfl, .inr ⟨seqT_put _ hq ha2, ?_⟩⟩
      refine ⟨_, rfl, a, C, dx, _, rfl, upd_same, CH.cl, CH.nR, (by show 1 < 1000; decide), ?_⟩
      rw [chF_put]
      refine fin p _ (fun c o n e => ?_) upd_same (seqT_put _ (seqT_put _ hq ha2) upd_same)
      rw [upd_ne n, upd_ne n]
      exact e
theorem ok_makeA {C CI : Addr} (T : BT mg) (CH : CC K C) (c_InvalidChange : RaiX P w K mg base 1 "InvalidChange" CI (spXInit CI "word")) (c_issigns : Cal P w K mg base 3 "is_signs" (spIsSignsD K) []) (c_isrows : Cal P w K mg base 2 "is_rows" (spIsRowsD K) []) {f : Addr} (M : Mk K C f) (hm : mg "Change" = some (.ref C)) {fd : FuncData} (F : C8.Fun K "__init__" "Change.__init__" s_init f fd) (b : Binds K fd ["self", "signs", "rows"] []) : MakX P w K mg base 4 "Change" C (spInitA K C CI) :=
  ⟨f, fd, _, M, ok_initA T CH c_InvalidChange c_issigns c_isrows F, hm, b⟩
end
end Toy
namespace K4
abbrev Tx := List Nat
def imgN (sg : Tx) (ims : List Tx) (c : Nat) : Tx := ims.getD (sg.idxOf c) []
def appN (sg : Tx) (ims : List Tx) (l : Tx) : Tx := l.flatMap (imgN sg ims)
inductive Rest (sg : Tx) (ims : List Tx) : Tx → Prop
  | base {c d : Nat} {r : Tx} : c ∈ sg → d ∈ sg → c ≠ d → imgN sg ims c = imgN sg ims d ++ r → Rest sg ims r
  | step {c : Nat} {r r' : Tx} : Rest sg ims r → r ≠ [] → c ∈ sg → (imgN sg ims c = r ++ r' ∨ r = imgN sg ims c ++ r') → Rest sg ims r'
def Full (ims : List Tx) : Prop := ∀ im ∈ ims, im ≠ []
theorem img_in {sg : Tx} {ims : List Tx} (hl : ims.length = sg.length) {c : Nat} (h : c ∈ sg) : imgN sg ims c ∈ ims := by
  unfold imgN
  have h1 := List.idxOf_lt_length_of_mem h
  rw [List.getD_eq_getElem?_getD, List.getElem?_eq_getElem (by omega)]
  exact List.getElem_mem _
theorem app_nil {sg : Tx} {ims : List Tx} (hl : ims.length = sg.length) (hf : Full ims) : ∀ {u : Tx}, (∀ c ∈ u, c ∈ sg) → appN sg ims u = [] → u = []
  | [], _, _ => rfl
  | c :: u, ho, h => by
    have e : appN sg ims (c :: u) = imgN sg ims c ++ appN sg ims u := List.flatMap_cons ..
    rw [e] at h
    exact absurd (List.append_eq_nil_iff.mp h).1 (hf _ (img_in hl (ho c List.mem_cons_self)))
theorem app_cons (sg : Tx) (ims : List Tx) (c : Nat) (u : Tx) : appN sg ims (c :: u) = imgN sg ims c ++ appN sg ims u := List.flatMap_cons ..
theorem two_pre {a b x y : Tx} (h : a ++ x = b ++ y) : (∃ t, a = b ++ t ∧ t ++ x = y) ∨ (∃ t, b = a ++ t ∧ x = t ++ y) := by
  rcases List.append_eq_append_iff.mp h with ⟨t, h1, h2⟩ | ⟨t, h1, h2⟩
  · exact .inr ⟨t, h1, h2⟩
  · exact .inl ⟨t, h1, h2.symm⟩
theorem rest_ends {sg : Tx} {ims : List Tx} (hl : ims.length = sg.length) (hf : Full ims) : ∀ (n : Nat) {r u v : Tx}, u.length + v.length ≤ n → Rest sg ims r → (∀ c ∈ u, c ∈ sg) → (∀ c ∈ v, c ∈ sg) → r ++ appN sg ims v = appN sg ims u → Rest sg ims []
  | n, r, u, v, hn, hr, hu, hv, h => by
    by_cases h0 : r = []
    · exact h0 ▸ hr
    cases u with
    | nil =>
      have : r ++ appN sg ims v = [] := h
      exact absurd (List.append_eq_nil_iff.mp this).1 h0
    | cons c u =>
      cases n with
      | zero => simp at hn
      | succ n =>
        rw [app_cons] at h
        have hc := hu c List.mem_cons_self
        have hu' : ∀ c ∈ u, c ∈ sg := fun d hd => hu d (List.mem_cons_of_mem _ hd)
        rcases two_pre h with ⟨t, h1, h2⟩ | ⟨t, h1, h2⟩
        · exact rest_ends hl hf n (by simp at hn; omega) (.step hr h0 hc (.inr h1)) hu' hv h2
        · exact rest_ends hl hf n (by simp at hn; omega) (.step hr h0 hc (.inl h1)) hv hu' h2.symm
theorem clear_inj {sg : Tx} {ims : List Tx} (hl : ims.length = sg.length) (hf : Full ims) (hc : ¬ Rest sg ims []) : ∀ {u v : Tx}, (∀ c ∈ u, c ∈ sg) → (∀ c ∈ v, c ∈ sg) → appN sg ims u = appN sg ims v → u = v
  | [], v, _, hv, h => (app_nil hl hf hv (show appN sg ims v = [] from h.symm)).symm
  | c :: u, [], hu, _, h => app_nil hl hf hu h
  | c :: u, d :: v, hu, hv, h => by
    have hc1 := hu c List.mem_cons_self
    have hd1 := hv d List.mem_cons_self
    have hu' : ∀ c ∈ u, c ∈ sg := fun d hd => hu d (List.mem_cons_of_mem _ hd)
    have hv' : ∀ c ∈ v, c ∈ sg := fun d hd => hv d (List.mem_cons_of_mem _ hd)
    rw [app_cons, app_cons] at h
    by_cases e : c = d
    · subst e
      rw [clear_inj hl hf hc hu' hv' (List.append_cancel_left h)]
    · exfalso
      rcases two_pre h with ⟨t, h1, h2⟩ | ⟨t, h1, h2⟩
      · exact hc (rest_ends hl hf _ (Nat.le_refl _) (.base hc1 hd1 e h1) hv' hu' h2)
      · exact hc (rest_ends hl hf _ (Nat.le_refl _) (.base hd1 hc1 (fun q => e q.symm) h1) hu' hv' h2.symm)
theorem rest_suf {sg : Tx} {ims : List Tx} (hl : ims.length = sg.length) (hf : Full ims) {r : Tx} (h : Rest sg ims r) : ∃ im ∈ ims, ∃ p, p ≠ [] ∧ im = p ++ r := by
  induction h with
  | base hc hd _ e => exact ⟨_, img_in hl hc, _, hf _ (img_in hl hd), e⟩
  | @step c r r' _ h0 hc e ih =>
    rcases e with e | e
    · exact ⟨_, img_in hl hc, r, h0, e⟩
    · obtain ⟨im, h1, p, h2, h3⟩ := ih
      refine ⟨im, h1, p ++ imgN sg ims c, fun q => h2 (List.append_eq_nil_iff.mp q).1, ?_⟩
      rw [h3, e, List.append_assoc]
def baseL (ims : List Tx) : List Tx := [] :: ims.flatMap fun im => (List.range (im.length - 1)).map fun k => im.drop (k + 1)
theorem flat_len {α β : Type} {f : α → List β} {c : Nat} : ∀ {l : List α}, (∀ x ∈ l, (f x).length ≤ c) → (l.flatMap f).length ≤ l.length * c
  | [], _ => by simp
  | x :: l, h => by
    rw [List.flatMap_cons, List.length_append, List.length_cons, Nat.add_mul]
    have h1 := h x List.mem_cons_self
    have h2 := flat_len (l := l) fun y hy => h y (List.mem_cons_of_mem _ hy)
    omega
theorem baseL_len {ims : List Tx} (h3 : ims.length ≤ 3) (h4 : ∀ im ∈ ims, im.length ≤ 4) : (baseL ims).length ≤ 10 := by
  have : (ims.flatMap fun im => (List.range (im.length - 1)).map fun k => im.drop (k + 1)).length ≤ ims.length * 3 := flat_len fun im hm => by
    rw [List.length_map, List.length_range]; have := h4 im hm; omega
  unfold baseL
  rw [List.length_cons]
  omega
theorem rest_base {sg : Tx} {ims : List Tx} (hl : ims.length = sg.length) (hf : Full ims) {r : Tx} (h : Rest sg ims r) : r ∈ baseL ims := by
  by_cases h0 : r = []
  · rw [h0]; exact List.mem_cons_self
  · obtain ⟨im, h1, p, h2, h3⟩ := rest_suf hl hf h
    refine List.mem_cons_of_mem _ (List.mem_flatMap.mpr ⟨im, h1, List.mem_map.mpr ⟨p.length - 1, ?_, ?_⟩⟩)
    · rw [List.mem_range, h3, List.length_append]
      have a := List.length_pos_iff.mpr h0
      have b := List.length_pos_iff.mpr h2
      omega
    · have b := List.length_pos_iff.mpr h2
      rw [show p.length - 1 + 1 = p.length by omega, h3, List.drop_left]
theorem nodup_sub {α : Type} [DecidableEq α] : ∀ {l m : List α}, l.Nodup → (∀ x ∈ l, x ∈ m) → l.length ≤ m.length
  | [], m, _, _ => Nat.zero_le _
  | a :: l, m, nd, h => by
    rw [List.nodup_cons] at nd
    have ha := h a List.mem_cons_self
    have ih := nodup_sub (l := l) (m := m.erase a) nd.2 fun x hx => by
      have hne : x ≠ a := fun e => nd.1 (e ▸ hx)
      exact (List.mem_erase_of_ne hne).mpr (h x (List.mem_cons_of_mem _ hx))
    rw [List.length_erase_of_mem ha] at ih
    have := List.length_pos_of_mem ha
    rw [List.length_cons]
    omega
theorem rests_few {sg : Tx} {ims ds : List Tx} (hl : ims.length = sg.length) (hf : Full ims) (h3 : ims.length ≤ 3) (h4 : ∀ im ∈ ims, im.length ≤ 4) (nd : ds.Nodup) (h : ∀ d ∈ ds, Rest sg ims d) : ds.length ≤ 10 :=
  Nat.le_trans (nodup_sub nd fun x hx => rest_base hl hf (h x hx)) (baseL_len h3 h4)
def beh (r b : Tx) : List Tx := if r.take b.length = b then [r.drop b.length] else []
theorem beh_len (r b : Tx) : (beh r b).length ≤ 1 := by unfold beh; split <;> simp
theorem mem_beh {r b x : Tx} : x ∈ beh r b ↔ r = b ++ x := by
  unfold beh
  constructor
  · intro h
    split at h
    · rename_i e
      rw [List.mem_singleton] at h
      rw [h]
      have := List.take_append_drop b.length r
      rw [e] at this
      exact this.symm
    · cases h
  · rintro rfl
    rw [if_pos (List.take_left), List.drop_left]
    exact List.mem_singleton.mpr rfl
def nextL (ims : List Tx) (r : Tx) : List Tx := ims.flatMap fun im => beh im r ++ beh r im
def gen0 (ims : List Tx) : List Tx := (List.range ims.length).flatMap fun i => (ims.take i ++ ims.drop (i + 1)).flatMap fun o => beh (ims.getD i []) o
def nonE (found : List Tx) : List Tx := found.filter fun x => decide (x ≠ [])
def freshU (ims found : List Tx) : List Tx := (nonE found).flatMap (nextL ims)
def freshF (ims found : List Tx) : List Tx := (freshU ims found).filter fun x => decide (x ∉ found)
structure Good (sg : Tx) (ims : List Tx) : Prop where
  nd : sg.Nodup
  hl : ims.length = sg.length
  h3 : ims.length ≤ 3
  h4 : ∀ im ∈ ims, im.length ≤ 4
theorem Good.img_at {sg : Tx} {ims : List Tx} (g : Good sg ims) {i : Nat} {c : Nat} (h : sg[i]? = some c) : ims[i]? = some (imgN sg ims c) := by
  obtain ⟨h1, rfl⟩ := List.getElem?_eq_some_iff.mp h
  unfold imgN
  rw [g.nd.idxOf_getElem i h1, List.getD_eq_getElem?_getD, List.getElem?_eq_getElem (by have := g.hl; omega)]
  rfl
theorem Good.img_mem {sg : Tx} {ims : List Tx} (g : Good sg ims) {im : Tx} : im ∈ ims ↔ ∃ c ∈ sg, im = imgN sg ims c := by
  constructor
  · intro h
    obtain ⟨i, hi⟩ := List.getElem?_of_mem h
    have hlt : i < sg.length := by have := (List.getElem?_eq_some_iff.mp hi).1; have := g.hl; omega
    refine ⟨sg[i], List.getElem_mem _, ?_⟩
    have := g.img_at (List.getElem?_eq_getElem hlt)
    rw [hi] at this
    exact Option.some.inj this
  · rintro ⟨c, hc, rfl⟩
    exact img_in g.hl hc
theorem mem_rest_of {α : Type} {l : List α} {i : Nat} {x : α} : x ∈ l.take i ++ l.drop (i + 1) ↔ ∃ j, j ≠ i ∧ l[j]? = some x := by
  rw [List.mem_append]
  constructor
  · rintro (h | h)
    · obtain ⟨j, hj⟩ := List.getElem?_of_mem h
      rw [List.getElem?_take] at hj
      split at hj
      · exact ⟨j, by omega, hj⟩
      · cases hj
    · obtain ⟨j, hj⟩ := List.getElem?_of_mem h
      rw [List.getElem?_drop] at hj
      exact ⟨i + 1 + j, by omega, hj⟩
  · rintro ⟨j, hj, e⟩
    by_cases h : j < i
    · exact .inl (List.mem_of_getElem? (i := j) (by rw [List.getElem?_take, if_pos h]; exact e))
    · refine .inr (List.mem_of_getElem? (i := j - (i + 1)) ?_)
      rw [List.getElem?_drop, show i + 1 + (j - (i + 1)) = j by omega]
      exact e
theorem mem_gen0 {sg : Tx} {ims : List Tx} (g : Good sg ims) {x : Tx} : x ∈ gen0 ims ↔ ∃ c ∈ sg, ∃ d ∈ sg, c ≠ d ∧ imgN sg ims c = imgN sg ims d ++ x := by
  unfold gen0
  rw [List.mem_flatMap]
  constructor
  · rintro ⟨i, hi, h⟩
    rw [List.mem_range] at hi
    obtain ⟨o, ho, hx⟩ := List.mem_flatMap.mp h
    obtain ⟨j, hji, hj⟩ := mem_rest_of.mp ho
    have hjl := (List.getElem?_eq_some_iff.mp hj).1
    have hi' : i < sg.length := by have := g.hl; omega
    have hj' : j < sg.length := by have := g.hl; omega
    have e1 := g.img_at (List.getElem?_eq_getElem hi')
    have e2 := g.img_at (List.getElem?_eq_getElem hj')
    rw [hj] at e2
    refine ⟨sg[i], List.getElem_mem _, sg[j], List.getElem_mem _, fun q => hji (by have a := g.nd.idxOf_getElem i hi'; have b := g.nd.idxOf_getElem j hj'; rw [q] at a; rw [a] at b; exact b.symm), ?_⟩
    rw [List.getD_eq_getElem?_getD, e1] at hx
    rw [← Option.some.inj e2]
    exact mem_beh.mp hx
  · rintro ⟨c, hc, d, hd, hne, e⟩
    obtain ⟨i, hi⟩ := List.getElem?_of_mem hc
    obtain ⟨j, hj⟩ := List.getElem?_of_mem hd
    have hil := (List.getElem?_eq_some_iff.mp hi).1
    refine ⟨i, List.mem_range.mpr (by have := g.hl; omega), List.mem_flatMap.mpr ⟨imgN sg ims d, mem_rest_of.mpr ⟨j, fun q => ?_, g.img_at hj⟩, ?_⟩⟩
    · subst q; rw [hi] at hj; exact hne (Option.some.inj hj)
    · rw [List.getD_eq_getElem?_getD, g.img_at hi]
      exact mem_beh.mpr e
theorem mem_nextL {sg : Tx} {ims : List Tx} (g : Good sg ims) {r x : Tx} : x ∈ nextL ims r ↔ ∃ c ∈ sg, imgN sg ims c = r ++ x ∨ r = imgN sg ims c ++ x := by
  unfold nextL
  rw [List.mem_flatMap]
  constructor
  · rintro ⟨im, hm, h⟩
    obtain ⟨c, hc, rfl⟩ := g.img_mem.mp hm
    exact ⟨c, hc, (List.mem_append.mp h).imp mem_beh.mp mem_beh.mp⟩
  · rintro ⟨c, hc, h⟩
    exact ⟨_, img_in g.hl hc, List.mem_append.mpr (h.imp mem_beh.mpr mem_beh.mpr)⟩
theorem mem_nonE {found : List Tx} {x : Tx} : x ∈ nonE found ↔ x ∈ found ∧ x ≠ [] := by
  unfold nonE; rw [List.mem_filter, decide_eq_true_eq]
theorem gen0_len {ims : List Tx} (h3 : ims.length ≤ 3) : (gen0 ims).length ≤ 6 := by
  unfold gen0
  have : ∀ i ∈ List.range ims.length, ((ims.take i ++ ims.drop (i + 1)).flatMap fun o => beh (ims.getD i []) o).length ≤ 2 := fun i hi => by
    rw [List.mem_range] at hi
    refine Nat.le_trans (flat_len (c := 1) fun o _ => beh_len _ _) ?_
    rw [List.length_append, List.length_take, List.length_drop]
    omega
  have := flat_len this
  rw [List.length_range] at this
  omega
theorem next_len {ims : List Tx} (h3 : ims.length ≤ 3) (r : Tx) : (nextL ims r).length ≤ 6 := by
  have : (nextL ims r).length ≤ ims.length * 2 := flat_len fun im _ => by
    rw [List.length_append]; have := beh_len im r; have := beh_len r im; omega
  omega
theorem nonE_flat {α : Type} {f : α → List Tx} : ∀ {l : List α}, nonE (l.flatMap f) = l.flatMap fun x => nonE (f x)
  | [] => rfl
  | x :: l => by
    rw [List.flatMap_cons, List.flatMap_cons, ← nonE_flat (l := l)]
    exact List.filter_append ..
theorem next_nonE {ims : List Tx} (h3 : ims.length ≤ 3) (r : Tx) : (nonE (nextL ims r)).length ≤ 3 := by
  unfold nextL
  rw [nonE_flat]
  have : (ims.flatMap fun im => nonE (beh im r ++ beh r im)).length ≤ ims.length * 1 := flat_len fun im _ => by
    unfold beh
    by_cases h1 : im.take r.length = r
    · by_cases h2 : r.take im.length = im
      · have e : r = im := by
          have a := congrArg List.length h1
          have b := congrArg List.length h2
          rw [List.length_take] at a b
          have : r.length = im.length := by omega
          rw [this, List.take_length] at h1
          exact h1.symm
        subst e
        rw [if_pos h1, List.drop_length]
        unfold nonE
        simp
      · rw [if_pos h1, if_neg h2, List.append_nil]
        exact Nat.le_trans (List.length_filter_le ..) (Nat.le_refl 1)
    · rw [if_neg h1, List.nil_append]
      exact Nat.le_trans (List.length_filter_le ..) (by split <;> simp)
  omega
structure Turn (sg : Tx) (ims found : List Tx) (t : Nat) : Prop where
  sub : ∀ x ∈ gen0 ims, x ∈ found
  rst : ∀ x ∈ found, Rest sg ims x
  few : found.length ≤ 12 * 4 ^ t
  fewE : (nonE found).length ≤ 6 * 4 ^ t
  ds : found = [] ∨ ∃ ds : List Tx, ds.Nodup ∧ (∀ d ∈ ds, d ∈ found) ∧ ds.length = t + 1
theorem Turn.le {sg : Tx} {ims found : List Tx} {t : Nat} (g : Good sg ims) (hf : Full ims) (h : Turn sg ims found t) : found = [] ∨ t ≤ 9 :=
  h.ds.imp id fun ⟨ds, nd, sub, e⟩ => by
    have := rests_few g.hl hf g.h3 g.h4 nd fun d hd => h.rst d (sub d hd)
    omega
theorem nonE_le (found : List Tx) : (nonE found).length ≤ found.length := List.length_filter_le ..
theorem turn0 {sg : Tx} {ims : List Tx} (g : Good sg ims) : Turn sg ims (gen0 ims) 0 := by
  have l6 := gen0_len g.h3
  refine ⟨fun _ h => h, fun x hx => ?_, by omega, Nat.le_trans (nonE_le _) (by omega), ?_⟩
  · obtain ⟨c, hc, d, hd, hne, e⟩ := (mem_gen0 g).mp hx
    exact .base hc hd hne e
  · cases h : gen0 ims with
    | nil => exact .inl rfl
    | cons a l => exact .inr ⟨[a], by simp, fun d hd => by rw [List.mem_singleton.mp hd]; exact List.mem_cons_self, rfl⟩
theorem freshU_len {ims found : List Tx} (h3 : ims.length ≤ 3) : (freshU ims found).length ≤ (nonE found).length * 6 := flat_len fun r _ => next_len h3 r
theorem freshU_nonE {ims found : List Tx} (h3 : ims.length ≤ 3) : (nonE (freshU ims found)).length ≤ (nonE found).length * 3 := by
  unfold freshU
  rw [nonE_flat]
  exact flat_len fun r _ => next_nonE h3 r
theorem Turn.next {sg : Tx} {ims found : List Tx} {t : Nat} (g : Good sg ims) (h : Turn sg ims found t) (hne : freshF ims found ≠ []) : Turn sg ims (found ++ freshF ims found) (t + 1) := by
  have u1 := freshU_len (found := found) g.h3
  have u2 := freshU_nonE (found := found) g.h3
  have f1 : (freshF ims found).length ≤ (freshU ims found).length := List.length_filter_le ..
  have f2 : (nonE (freshF ims found)).length ≤ (nonE (freshU ims found)).length := by
    unfold freshF nonE
    rw [List.filter_filter]
    have : ((freshU ims found).filter fun a => decide (a ≠ []) && decide (a ∉ found)) = ((freshU ims found).filter fun x => decide (x ≠ [])).filter fun x => decide (x ∉ found) := by
      rw [List.filter_filter]
      exact List.filter_congr fun x _ => Bool.and_comm ..
    rw [this]
    exact List.length_filter_le ..
  have e4 : 4 ^ (t + 1) = 4 ^ t * 4 := Nat.pow_succ ..
  have i1 := h.few
  have i2 := h.fewE
  refine ⟨fun x hx => List.mem_append_left _ (h.sub x hx), fun x hx => ?_, ?_, ?_, .inr ?_⟩
  · rcases List.mem_append.mp hx with q | q
    · exact h.rst x q
    · have q := (List.mem_filter.mp q).1
      obtain ⟨r, hr, q⟩ := List.mem_flatMap.mp q
      obtain ⟨hr1, hr2⟩ := mem_nonE.mp hr
      obtain ⟨c, hc, e⟩ := (mem_nextL g).mp q
      exact .step (h.rst r hr1) hr2 hc e
  · rw [List.length_append, e4]; omega
  · have : nonE (found ++ freshF ims found) = nonE found ++ nonE (freshF ims found) := List.filter_append ..
    rw [this, List.length_append, e4]; omega
  · obtain ⟨x, hx⟩ := List.exists_mem_of_ne_nil _ hne
    have hx0 : x ∉ found := of_decide_eq_true (List.mem_filter.mp hx).2
    rcases h.ds with q | ⟨ds, nd, sub, e⟩
    · exfalso
      apply hne
      subst q
      rfl
    · exact ⟨x :: ds, List.nodup_cons.mpr ⟨fun z => hx0 (sub x z), nd⟩, fun d hd => by
        rcases List.mem_cons.mp hd with rfl | hd
        · exact List.mem_append_right _ hx
        · exact List.mem_append_left _ (sub d hd), by rw [List.length_cons, e]⟩
theorem Turn.done {sg : Tx} {ims found : List Tx} {t : Nat} (g : Good sg ims) (h : Turn sg ims found t) (h0 : freshF ims found = []) (x : Tx) : x ∈ found ↔ Rest sg ims x := by
  refine ⟨h.rst x, fun hx => ?_⟩
  induction hx with
  | base hc hd hne e => exact h.sub _ ((mem_gen0 g).mpr ⟨_, hc, _, hd, hne, e⟩)
  | @step c r r' _ hr hc e ih =>
    have : r' ∈ freshU ims found := List.mem_flatMap.mpr ⟨r, mem_nonE.mpr ⟨ih, hr⟩, (mem_nextL g).mpr ⟨c, hc, e⟩⟩
    by_cases q : r' ∈ found
    · exact q
    · exfalso
      have : r' ∈ freshF ims found := List.mem_filter.mpr ⟨this, decide_eq_true q⟩
      rw [h0] at this
      cases this
theorem Turn.small {sg : Tx} {ims found : List Tx} {t : Nat} (g : Good sg ims) (hf : Full ims) (h : Turn sg ims found t) : found.length ≤ 3145728 ∧ (freshU ims found).length ≤ 9437184 := by
  rcases h.le g hf with q | q
  · subst q; exact ⟨Nat.zero_le _, Nat.zero_le _⟩
  · have i1 := h.few
    have i2 := h.fewE
    have u1 := freshU_len (found := found) g.h3
    have : 4 ^ t ≤ 4 ^ 9 := Nat.pow_le_pow_right (by decide) q
    have e : 4 ^ 9 = 262144 := by decide
    omega
theorem lex_irr (a : Tx) : ¬ a < a := List.lt_irrefl a
theorem rise_eq : ∀ {l m : List Tx}, l.Pairwise (· < ·) → m.Pairwise (· < ·) → (∀ x, x ∈ l ↔ x ∈ m) → l = m
  | [], [], _, _, _ => rfl
  | [], b :: m, _, _, h => by have := (h b).mpr List.mem_cons_self; cases this
  | a :: l, [], _, _, h => by have := (h a).mp List.mem_cons_self; cases this
  | a :: l, b :: m, hl, hm, h => by
    rw [List.pairwise_cons] at hl hm
    have e : a = b := by
      rcases List.mem_cons.mp ((h a).mp List.mem_cons_self) with q | q
      · exact q
      · rcases List.mem_cons.mp ((h b).mpr List.mem_cons_self) with p | p
        · exact p.symm
        · exact absurd (List.lt_trans (hl.1 b p) (hm.1 a q)) (lex_irr a)
    subst e
    rw [rise_eq hl.2 hm.2 fun x => ?_]
    constructor
    · intro hx
      rcases List.mem_cons.mp ((h x).mp (List.mem_cons_of_mem _ hx)) with q | q
      · exact absurd (hl.1 x hx) (by rw [q]; exact lex_irr a)
      · exact q
    · intro hx
      rcases List.mem_cons.mp ((h x).mpr (List.mem_cons_of_mem _ hx)) with q | q
      · exact absurd (hm.1 x hx) (by rw [q]; exact lex_irr a)
      · exact q
end K4
namespace K4
abbrev Tri := Tx × Tx × Tx
abbrev Zs := List (Nat × Tx)
def fst1 (p q : Nat × Tx) : List Tri := if p.1 ≠ q.1 ∧ p.2.take q.2.length = q.2 then [(p.2.drop q.2.length, [p.1], [q.1])] else []
def firstT (z : Zs) : List Tri := z.flatMap fun p => z.flatMap fun q => fst1 p q
def nxA (r l s : Tx) (p : Nat × Tx) : List Tri := if r ≠ [] ∧ p.2.take r.length = r then [(p.2.drop r.length, s ++ [p.1], l)] else []
def nxB (r l s : Tx) (p : Nat × Tx) : List Tri := if r.take p.2.length = p.2 then [(r.drop p.2.length, l, s ++ [p.1])] else []
def nextT (z : Zs) (e : Tri) : List Tri := z.flatMap fun p => nxA e.1 e.2.1 e.2.2 p ++ nxB e.1 e.2.1 e.2.2 p
theorem take_pre {b r : Tx} (h : r.take b.length = b) : r = b ++ r.drop b.length := by
  have := List.take_append_drop b.length r
  rw [h] at this
  exact this.symm
theorem Good.zip_mem {sg : Tx} {ims : List Tx} (g : Good sg ims) {c : Nat} {im : Tx} : (c, im) ∈ sg.zip ims ↔ c ∈ sg ∧ im = imgN sg ims c := by
  constructor
  · intro h
    obtain ⟨i, hi⟩ := List.getElem?_of_mem h
    rw [List.getElem?_zip_eq_some] at hi
    refine ⟨List.mem_of_getElem? hi.1, ?_⟩
    have := g.img_at hi.1
    rw [hi.2] at this
    exact Option.some.inj this
  · rintro ⟨hc, rfl⟩
    obtain ⟨i, hi⟩ := List.getElem?_of_mem hc
    refine List.mem_of_getElem? (i := i) ?_
    rw [List.getElem?_zip_eq_some]
    exact ⟨hi, g.img_at hi⟩
theorem Good.zip_len {sg : Tx} {ims : List Tx} (g : Good sg ims) : (sg.zip ims).length ≤ 3 := by
  rw [List.length_zip]; have := g.h3; omega
structure GE (sg : Tx) (ims : List Tx) (n : Nat) (e : Tri) : Prop where
  rst : Rest sg ims e.1
  ol : ∀ c ∈ e.2.1, c ∈ sg
  os : ∀ c ∈ e.2.2, c ∈ sg
  eq : appN sg ims e.2.1 = appN sg ims e.2.2 ++ e.1
  nl : e.2.1 ≠ []
  ns : e.2.2 ≠ []
  hd : e.2.1.head? ≠ e.2.2.head?
  ll : e.2.1.length ≤ n
  ls : e.2.2.length ≤ n
theorem GE.mono {sg : Tx} {ims : List Tx} {m n : Nat} {e : Tri} (h : GE sg ims m e) (hmn : m ≤ n) : GE sg ims n e := ⟨h.rst, h.ol, h.os, h.eq, h.nl, h.ns, h.hd, Nat.le_trans h.ll hmn, Nat.le_trans h.ls hmn⟩
theorem app_cat' (sg : Tx) (ims : List Tx) (u v : Tx) : appN sg ims (u ++ v) = appN sg ims u ++ appN sg ims v := List.flatMap_append ..
theorem app_one (sg : Tx) (ims : List Tx) (c : Nat) : appN sg ims [c] = imgN sg ims c := by rw [app_cons]; show _ ++ [] = _; rw [List.append_nil]
theorem head_app {u v : Tx} (h : u ≠ []) : (u ++ v).head? = u.head? := by cases u with | nil => exact absurd rfl h | cons a u => rfl
theorem ge_first {sg : Tx} {ims : List Tx} (g : Good sg ims) {e : Tri} (h : e ∈ firstT (sg.zip ims)) : GE sg ims 1 e := by
  obtain ⟨⟨c, a⟩, hp, h⟩ := List.mem_flatMap.mp h
  obtain ⟨⟨d, b⟩, hq, h⟩ := List.mem_flatMap.mp h
  obtain ⟨hc, rfl⟩ := g.zip_mem.mp hp
  obtain ⟨hd, rfl⟩ := g.zip_mem.mp hq
  unfold fst1 at h
  split at h
  · rename_i hif
    rw [List.mem_singleton] at h
    subst h
    have e := take_pre hif.2
    dsimp only at e hif ⊢
    refine ⟨.base hc hd hif.1 e, fun x hx => by rw [List.mem_singleton.mp hx]; exact hc, fun x hx => by rw [List.mem_singleton.mp hx]; exact hd, ?_, by simp, by simp, fun q => hif.1 (by simpa using q), Nat.le_refl 1, Nat.le_refl 1⟩
    dsimp only
    rw [app_one, app_one]
    exact e
  · cases h
theorem first_all {sg : Tx} {ims : List Tx} (g : Good sg ims) {c d : Nat} {r : Tx} (hc : c ∈ sg) (hd : d ∈ sg) (hne : c ≠ d) (h : imgN sg ims c = imgN sg ims d ++ r) : ∃ e ∈ firstT (sg.zip ims), e.1 = r := by
  refine ⟨(r, [c], [d]), List.mem_flatMap.mpr ⟨(c, imgN sg ims c), g.zip_mem.mpr ⟨hc, rfl⟩, List.mem_flatMap.mpr ⟨(d, imgN sg ims d), g.zip_mem.mpr ⟨hd, rfl⟩, ?_⟩⟩, rfl⟩
  unfold fst1
  dsimp only
  rw [h, List.take_left, List.drop_left, if_pos ⟨hne, rfl⟩]
  exact List.mem_singleton.mpr rfl
theorem ge_next {sg : Tx} {ims : List Tx} (g : Good sg ims) (hf : Full ims) {n : Nat} {e x : Tri} (he : GE sg ims n e) (h : x ∈ nextT (sg.zip ims) e) : GE sg ims (n + 1) x := by
  obtain ⟨r, l, s⟩ := e
  obtain ⟨⟨c, a⟩, hp, h⟩ := List.mem_flatMap.mp h
  obtain ⟨hc, rfl⟩ := g.zip_mem.mp hp
  have ls := he.ls
  have ll := he.ll
  have os := he.os
  have eq := he.eq
  have ns := he.ns
  have hh := he.hd
  dsimp only at ls ll os eq ns hh
  have os' : ∀ x ∈ s ++ [c], x ∈ sg := fun x hx => by
    rcases List.mem_append.mp hx with q | q
    · exact os x q
    · rw [List.mem_singleton.mp q]; exact hc
  have hne : s ++ [c] ≠ [] := by simp
  have hhd : (s ++ [c]).head? = s.head? := head_app ns
  rcases List.mem_append.mp h with h | h
  · unfold nxA at h
    split at h
    · rename_i hif
      rw [List.mem_singleton] at h
      subst h
      have e := take_pre hif.2
      dsimp only at e hif ⊢
      refine ⟨.step he.rst hif.1 hc (.inl e), os', he.ol, ?_, hne, he.nl, ?_, ?_, Nat.le_succ_of_le ll⟩
      · dsimp only
        rw [app_cat', app_one, eq, List.append_assoc, ← e]
      · dsimp only
        rw [hhd]; exact fun q => hh q.symm
      · dsimp only
        rw [List.length_append]; exact Nat.succ_le_succ ls
    · cases h
  · unfold nxB at h
    split at h
    · rename_i hif
      rw [List.mem_singleton] at h
      subst h
      have e := take_pre hif
      dsimp only at e hif ⊢
      have hr : r ≠ [] := fun q => by
        rw [q] at e
        exact hf _ (img_in g.hl hc) (List.append_eq_nil_iff.mp e.symm).1
      refine ⟨.step he.rst hr hc (.inr e), he.ol, os', ?_, he.nl, hne, ?_, Nat.le_succ_of_le ll, ?_⟩
      · dsimp only
        rw [app_cat', app_one, eq, List.append_assoc, ← e]
      · dsimp only
        rw [hhd]; exact hh
      · dsimp only
        rw [List.length_append]; exact Nat.succ_le_succ ls
    · cases h
theorem next_all {sg : Tx} {ims : List Tx} (g : Good sg ims) {c : Nat} {e : Tri} {r' : Tx} (h0 : e.1 ≠ []) (hc : c ∈ sg) (h : imgN sg ims c = e.1 ++ r' ∨ e.1 = imgN sg ims c ++ r') : ∃ x ∈ nextT (sg.zip ims) e, x.1 = r' := by
  obtain ⟨r, l, s⟩ := e
  dsimp only at h h0
  rcases h with h | h
  · refine ⟨(r', s ++ [c], l), List.mem_flatMap.mpr ⟨(c, imgN sg ims c), g.zip_mem.mpr ⟨hc, rfl⟩, List.mem_append_left _ ?_⟩, rfl⟩
    unfold nxA
    dsimp only
    rw [h, List.take_left, List.drop_left, if_pos ⟨h0, rfl⟩]
    exact List.mem_singleton.mpr rfl
  · refine ⟨(r', l, s ++ [c]), List.mem_flatMap.mpr ⟨(c, imgN sg ims c), g.zip_mem.mpr ⟨hc, rfl⟩, List.mem_append_right _ ?_⟩, rfl⟩
    unfold nxB
    dsimp only
    have h1 : r.take (imgN sg ims c).length = imgN sg ims c := by rw [h, List.take_left]
    have h2 : r.drop (imgN sg ims c).length = r' := by rw [h, List.drop_left]
    rw [if_pos h1, h2]
    exact List.mem_singleton.mpr rfl
theorem first_len {z : Zs} (h : z.length ≤ 3) : (firstT z).length ≤ 9 := by
  have h1 : ∀ p ∈ z, (z.flatMap fun q => fst1 p q).length ≤ 3 := fun p _ => by
    have : (z.flatMap fun q => fst1 p q).length ≤ z.length * 1 := flat_len fun q _ => by unfold fst1; split <;> simp
    omega
  have := flat_len h1
  unfold firstT
  omega
theorem nextT_len {z : Zs} (h : z.length ≤ 3) (e : Tri) : (nextT z e).length ≤ 6 := by
  have : (nextT z e).length ≤ z.length * 2 := flat_len fun p _ => by
    rw [List.length_append]; unfold nxA nxB
    split <;> split <;> simp
  omega
structure WS (sg : Tx) (ims : List Tx) (F W : List Tri) (at_ : Nat) : Prop where
  ge : ∀ e ∈ F, GE sg ims (W.length + 1) e
  nd : (W.map (·.1)).Nodup
  sub : ∀ e ∈ W, e ∈ F
  fst : ∀ e ∈ firstT (sg.zip ims), e ∈ F
  nxt : ∀ e ∈ W, ∀ x ∈ nextT (sg.zip ims) e, x ∈ F
  done : ∀ k e, k < at_ → F[k]? = some e → e.1 ∈ W.map (·.1)
  len : F.length ≤ 9 + 6 * W.length
theorem WS.few {sg : Tx} {ims : List Tx} (g : Good sg ims) (hf : Full ims) {F W : List Tri} {at_ : Nat} (h : WS sg ims F W at_) : W.length ≤ 10 ∧ F.length ≤ 69 := by
  have := rests_few g.hl hf g.h3 g.h4 h.nd fun d hd => by
    obtain ⟨e, he, rfl⟩ := List.mem_map.mp hd
    exact (h.ge e (h.sub e he)).rst
  rw [List.length_map] at this
  have := h.len
  omega
theorem ws0 {sg : Tx} {ims : List Tx} (g : Good sg ims) : WS sg ims (firstT (sg.zip ims)) [] 0 :=
  ⟨fun e he => ge_first g he, List.nodup_nil, (fun _ h => nomatch h), fun _ h => h, (fun _ h => nomatch h), fun _ _ h => absurd h (Nat.not_lt_zero _), first_len g.zip_len⟩
theorem WS.skip {sg : Tx} {ims : List Tx} {F W : List Tri} {at_ : Nat} {e : Tri} (h : WS sg ims F W at_) (he : F[at_]? = some e) (hk : e.1 ∈ W.map (·.1)) : WS sg ims F W (at_ + 1) :=
  ⟨h.ge, h.nd, h.sub, h.fst, h.nxt, fun k x hk1 hx => by
    by_cases q : k = at_
    · subst q; rw [he] at hx; rw [← Option.some.inj hx]; exact hk
    · exact h.done k x (by omega) hx, h.len⟩
theorem WS.put {sg : Tx} {ims : List Tx} (g : Good sg ims) (hf : Full ims) {F W : List Tri} {at_ : Nat} {e : Tri} (h : WS sg ims F W at_) (he : F[at_]? = some e) (hk : e.1 ∉ W.map (·.1)) : WS sg ims (F ++ nextT (sg.zip ims) e) (W ++ [e]) (at_ + 1) := by
  have heF := List.mem_of_getElem? he
  have hlt := (List.getElem?_eq_some_iff.mp he).1
  refine ⟨fun x hx => ?_, ?_, fun x hx => ?_, fun x hx => List.mem_append_left _ (h.fst x hx), fun x hx y hy => ?_, fun k x hk1 hx => ?_, ?_⟩
  · rw [List.length_append]
    rcases List.mem_append.mp hx with q | q
    · exact (h.ge x q).mono (Nat.le_succ _)
    · exact ge_next g hf (h.ge e heF) q
  · rw [List.map_append, List.nodup_append]
    refine ⟨h.nd, by simp, fun a ha b hb q => ?_⟩
    have : b = e.1 := by simpa using hb
    subst q; subst this
    exact hk ha
  · rcases List.mem_append.mp hx with q | q
    · exact List.mem_append_left _ (h.sub x q)
    · rw [List.mem_singleton.mp q]; exact List.mem_append_left _ heF
  · rcases List.mem_append.mp hx with q | q
    · exact List.mem_append_left _ (h.nxt x q y hy)
    · rw [List.mem_singleton.mp q] at hy; exact List.mem_append_right _ hy
  · rw [List.map_append]
    have hkF : k < F.length := by omega
    rw [List.getElem?_append_left hkF] at hx
    by_cases q : k = at_
    · subst q; rw [he] at hx; rw [← Option.some.inj hx]; exact List.mem_append_right _ (by simp)
    · exact List.mem_append_left _ (h.done k x (by omega) hx)
  · have := nextT_len g.zip_len e
    have := h.len
    rw [List.length_append, List.length_append, List.length_singleton]
    omega
theorem WS.all {sg : Tx} {ims : List Tx} (g : Good sg ims) {F W : List Tri} {at_ : Nat} (h : WS sg ims F W at_) (hat : F.length ≤ at_) (r : Tx) : r ∈ W.map (·.1) ↔ Rest sg ims r := by
  have key : ∀ x ∈ F, x.1 ∈ W.map (·.1) := fun x hx => by
    obtain ⟨k, hk⟩ := List.getElem?_of_mem hx
    exact h.done k x (by have := (List.getElem?_eq_some_iff.mp hk).1; omega) hk
  constructor
  · intro hr
    obtain ⟨e, he, rfl⟩ := List.mem_map.mp hr
    exact (h.ge e (h.sub e he)).rst
  · intro hr
    induction hr with
    | base hc hd hne e =>
      obtain ⟨x, hx, rfl⟩ := first_all g hc hd hne e
      exact key x (h.fst x hx)
    | step _ h0 hc e ih =>
      obtain ⟨y, hy, rfl⟩ := List.mem_map.mp ih
      obtain ⟨x, hx, rfl⟩ := next_all g h0 hc e
      exact key x (h.nxt y hy x hx)
end K4
set_option maxHeartbeats 2000000
namespace LX
open PySem PySem.Spec PyProof.Rows L2 C8 SX
section
variable {X : Cx}
theorem op_isBl : OpR X (compareOp .Is) (fun x y H Q => ∃ a b, x = .bl a ∧ y = .bl b ∧ Q (.bl (decide (a = b))) H) := by
  intro pins s σ H x y v u Q I rx ry h
  obtain ⟨a, b, rfl, rfl, q⟩ := h
  cases rx; cases ry
  refine wpAny_is_plain rfl (fin_bl I q ?_)
  cases a <;> cases b <;> rfl
theorem op_isnotBl : OpR X (compareOp .IsNot) (fun x y H Q => ∃ a b, x = .bl a ∧ y = .bl b ∧ Q (.bl (!decide (a = b))) H) := by
  intro pins s σ H x y v u Q I rx ry h
  obtain ⟨a, b, rfl, rfl, q⟩ := h
  cases rx; cases ry
  refine wpAny_isNot_plain rfl (fin_bl I q ?_)
  cases a <;> cases b <;> rfl
end
end LX
set_option maxHeartbeats 2000000
namespace LX
open PySem PySem.Spec PyProof.Rows L2 C8 SX
theorem starts_pre (r b : List Nat) : Txt.startswith (S r) (S b) = decide (r.take b.length = b) := by
  unfold Txt.startswith
  rw [PySem.StrLaws.subAt_eq]
  have e1 : (S r).cps.toList = r := by simp [S]
  have e2 : (S b).cps.toList = b := by simp [S]
  rw [e1, e2, S_len, S_len, List.drop_zero]
  by_cases h : r.take b.length = b
  · have hl := congrArg List.length h
    rw [List.length_take] at hl
    rw [h, beq_self_eq_true, Bool.and_true, decide_eq_true (p := (0 + b.length ≤ r.length)) (by omega)]
    simp
  · have : (r.take b.length == b) = false := by simpa using h
    rw [this, Bool.and_false, decide_eq_false h]
theorem cutb_from (r b : List Nat) : Txt.slice (S r) (some ((S b).length : Int)) none = S (r.drop b.length) := by
  rw [slice_from (by omega), S_len]; rfl
theorem cutb_to (r b : List Nat) : Txt.slice (S r) none (some ((S b).length : Int)) = S (r.take b.length) := by
  rw [slice_to (by omega), S_len]; rfl
theorem S_iff {a b : List Nat} : V.str (S a) = V.str (S b) ↔ a = b := ⟨fun h => by simpa [S] using V.str.inj h, fun h => by rw [h]⟩
end LX
set_option maxHeartbeats 2000000
namespace Toy
open PySem L2 C8 SX LX K4
local macro_rules | `(tactic| walk_at "c") => `(tactic| refine And.intro (by first | (show (0 : Int) < _; omega) | exact Or.inr ⟨by decide, by decide⟩ | exact Or.inl ⟨by decide, by decide⟩ | (exact ⟨by omega, by omega⟩)) ?_)
local macro_rules | `(tactic| walk_at "s1") => `(tactic| first | refine ⟨_, rfl, ?_⟩ | refine ⟨_, _, rfl, rfl, ?_⟩ | refine .inl ⟨_, rfl, ?_⟩ | walk_at "c")
local macro_rules | `(tactic| walk_at "ix") => `(tactic| refine ⟨_, _, _, _, rfl, rfl, SqL.of (by first | assumption | exact upd_same), rfl, ?_⟩)
local macro_rules | `(tactic| walk_at "s") => `(tactic| repeat (walk_at "s1"))
theorem img_get {sg : List Nat} {ims : List (List Nat)} {c : Nat} (hl : ims.length = sg.length) (hc : c ∈ sg) : ims[sg.idxOf c]? = some (img sg ims c) := by
  have h := List.idxOf_lt_length_of_mem hc
  unfold img
  rw [List.getD_eq_getElem?_getD, List.getElem?_eq_getElem (by omega)]
  rfl
theorem img_mem {sg : List Nat} {ims : List (List Nat)} {c : Nat} (hl : ims.length = sg.length) (hc : c ∈ sg) : img sg ims c ∈ ims := List.mem_of_getElem? (img_get hl hc)
theorem app_flat (sg : List Nat) (ims : List (List Nat)) (l : List Nat) : app sg ims l = (l.map (img sg ims)).flatten := List.flatMap_def ..
theorem sum_le {m : Nat} : ∀ {ys : List (List Nat)}, (∀ l ∈ ys, l.length ≤ m) → ((ys.map S).map (·.length)).sum ≤ ys.length * m
  | [], _ => by simp
  | y :: ys, h => by
    have ih := sum_le (m := m) (ys := ys) fun l hl => h l (List.mem_cons_of_mem _ hl)
    have h0 := h y List.mem_cons_self
    simp only [List.map_cons, List.sum_cons, List.length_cons]
    rw [S_len, Nat.add_mul]
    omega
theorem join_ok {m n : Nat} {ys : List (List Nat)} (h : ∀ l ∈ ys, l.length ≤ m) (hn : ys.length ≤ n) (hm : n * m ≤ 16000000) : ((ys.map S).map (·.length)).sum + (ys.map S).length * (Str.ofString "").length ≤ 16777216 := by
  rw [s_nil, S_len]
  have := sum_le h
  have h2 : ys.length * m ≤ n * m := Nat.mul_le_mul_right _ hn
  simp only [List.length_nil, Nat.mul_zero, Nat.add_zero]
  omega
theorem txs_get {ims : List (List Nat)} {i : Nat} {x : V} (h : (txs ims)[i]? = some x) : ∃ l, ims[i]? = some l ∧ x = .str (S l) := by
  unfold txs at h
  rw [List.getElem?_map] at h
  cases q : ims[i]? with
  | none => rw [q] at h; cases h
  | some l => rw [q] at h; exact ⟨l, rfl, (Option.some.inj h).symm⟩
theorem chr_get {sg : List Nat} {i : Nat} {x : V} (h : (sg.map fun c => V.str (S [c]))[i]? = some x) : ∃ c, sg[i]? = some c ∧ x = .str (S [c]) := by
  rw [List.getElem?_map] at h
  cases q : sg[i]? with
  | none => rw [q] at h; cases h
  | some l => rw [q] at h; exact ⟨l, rfl, (Option.some.inj h).symm⟩
structure Gd (sg : List Nat) (ims : List (List Nat)) : Prop where
  mn : Menu sg
  im : Ims sg ims 4
theorem Gd.good {sg : List Nat} {ims : List (List Nat)} (g : Gd sg ims) : Good sg ims :=
  ⟨menu_nodup g.mn, g.im.1, by rw [g.im.1]; exact (menu_len g.mn).2, fun l hl => (g.im.2 l hl).2⟩
theorem img_eq (sg : List Nat) (ims : List (List Nat)) : imgN sg ims = img sg ims := rfl
theorem app_eq (sg : List Nat) (ims : List (List Nat)) : appN sg ims = app sg ims := rfl
section
variable {P : Program} {w : World} {K : PySem.W.Frag} {mg : Str → Option Value} {base : Heap}
abbrev s_image : Stmt := top 30
abbrev n_image : List Str := ["signs", "images", "row", "sign"]
theorem sc_image : FnScope n_image ["signs", "images", "row"] (fnScope s_image) := fnScope_by (by decide +kernel)
def spImage : PySem.W.Frag → Sp := fun K vs H Q _ => ∃ (sg : List Nat) (p : Addr) (ims : List (List Nat)) (l : List Nat), vs = [.str (S sg), .ref p, .str (S l)] ∧ SqL K H p (txs ims) ∧ Gd sg ims ∧ Ov sg l ∧ l.length ≤ 1000 ∧
  ∀ H', Same H H' → Q (.str (S (app sg ims l))) H'
theorem ok_image (T : BT mg) {f : Addr} {fd : FuncData} (F : Def K mg "_law_image" s_image f fd) (b : Binds K fd ["signs", "images", "row"] []) : Cal P w K mg base 1 "_law_image" (spImage K) [] := by
  refine cal0 F b .nil sc_image (fun vs H Q E h => ?_) (fun cdv A outer s H vs Q E hr h => ?_)
  · obtain ⟨sg, p, ims, l, rfl, _⟩ := h; rfl
  · obtain ⟨sg, p, ims, l, rfl, hp, g, ho, hl, k⟩ := h
    have hi := g.im
    refine ⟨_, (pss_one (ps_ret (pe_join pe_str (pe_lc (own := [("sign", 3)]) rfl sc_image.nd (pi_str (pv 2)) (blkOk_by (N := n_image) (sc := fnScope s_image) (by decide +kernel)) (fun _ _ _ _ _ => (pg_name (i := 3) sc_image.nd rfl (.inl rfl))) (fun _ _ _ _ _ => pts_nil) (fun _ _ _ _ _ => (pe_ix (ixl K) (pv 1) (pe_m1 PySem.F.slot_str_index PySem.F.type_str_index mt_sindex (pv 0) (pv 3)) (fun _ _ => rfl))))))
      ), ?_⟩
    refine ⟨⟨_, rfl⟩, ?_⟩
    walk_at "s"
    refine fun D hD => lc_keep keep_same walk_str hD (by show l.length < sizeLine; exact small1000 hl) (fun j y => ∀ c, l[j]? = some c → y = .str (S (img sg ims c))) (fun _ _ => trivial) (fun i x H2 H3 R hii r hy hR => ?_) (fun ys H2 hly hg r hDs => ?_)
    · obtain ⟨rfl, c, hc, rfl⟩ := hy
      have hc' : l[i]? = some c := by simpa [S] using hc
      have hcs : c ∈ sg := ho c (List.mem_of_getElem? hc')
      obtain ⟨rest, hocc⟩ := occ_idx hcs
      refine ⟨rfl, ?_⟩
      walk_at "s"
      refine ⟨⟨_, rfl⟩, _, rfl, _, _, _, rest, rfl, rfl, hocc, ?_⟩
      refine ⟨_, _, _, .str (S (img sg ims c)), rfl, rfl, r.seq hp, at_of rfl ?_, hR _ _ (Same.refl _) fun d hd => ?_⟩
      · unfold txs; rw [List.getElem?_map, img_get hi.1 hcs]; rfl
      · rw [hc'] at hd; rw [Option.some.inj hd]
    · have e : ys = txs (l.map (img sg ims)) := by
        unfold txs; rw [List.map_map]
        exact list_map hly fun j y c e1 e2 => hg j y e1 c e2
      subst e
      refine ⟨_, D, (l.map (img sg ims)).map S, rfl, rfl, .inl (SqL.of (by rw [List.map_map]; exact hDs)), join_ok (m := 1000) (n := 1000) (fun z hz => ?_) (by simpa using hl) (by decide), ?_⟩
      · obtain ⟨c, hc, rfl⟩ := List.mem_map.mp hz
        have := (hi.2 _ (img_mem hi.1 (ho c hc))).2; omega
      · show Q (.str (Txt.join (Str.ofString "") ((l.map (img sg ims)).map S))) H2
        rw [s_nil, join_txs, ← app_flat]
        exact k H2 r
abbrev s_of : Stmt := inClass (top 13) 4
abbrev n_of : List Str := ["self", "row", "sign"]
theorem sc_of : FnScope n_of ["self", "row"] (fnScope s_of) := fnScope_by (by decide +kernel)
def spOf (K : PySem.W.Frag) (C : Addr) : Sp := fun vs H Q _ => ∃ (a : Addr) (sg : List Nat) (ims : List (List Nat)) (l : List Nat), vs = [.ref a, .str (S l)] ∧ Chg K C H a sg ims ∧ Gd sg ims ∧ Ov sg l ∧ l.length ≤ 1000 ∧
  ∀ H', Same H H' → Q (.str (S (app sg ims l))) H'
theorem ok_of {C : Addr} (T : BT mg) (CH : CC K C) {f : Addr} {fd : FuncData} (me : Meth K C "of" f) (F : C8.Fun K "of" "Change.of" s_of f fd) (b : Binds K fd ["self", "row"] []) : Met P w K mg base 1 C "of" (spOf K C) [] := by
  refine met0 CH.cl me F b sc_of (fun vs H Q E h => ?_) (fun cdv A outer s H vs Q E hr h => ?_)
  · obtain ⟨a, sg, ims, l, rfl, _⟩ := h; rfl
  · obtain ⟨a, sg, ims, l, rfl, ⟨dx, r, ha, hrr⟩, g, ho, hl, k⟩ := h
    have hi := g.im
    refine ⟨_, (pss_one (ps_ret (pe_join pe_str (pe_lc (own := [("sign", 2)]) rfl sc_of.nd (pi_str (pv 1)) (blkOk_by (N := n_of) (sc := fnScope s_of) (by decide +kernel)) (fun _ _ _ _ _ => (pg_name (i := 2) sc_of.nd rfl (.inl rfl))) (fun _ _ _ _ _ => pts_nil) (fun _ _ _ _ _ => (pe_ix (ixt K) (fldK K (pv 0) rfl) (pe_m1 PySem.F.slot_str_index PySem.F.type_str_index mt_sindex (fldK K (pv 0) rfl) (pv 2)) (fun _ _ => rfl))))))
      ), ?_⟩
    refine ⟨⟨_, rfl⟩, ?_⟩
    walk_at "s"
    refine fun D hD => lc_keep keep_same walk_str hD (by show l.length < sizeLine; exact small1000 hl) (fun j y => ∀ c, l[j]? = some c → y = .str (S (img sg ims c))) (fun _ _ => trivial) (fun i x H2 H3 R hii r1 hy hR => ?_) (fun ys H2 hly hg r1 hDs => ?_)
    · obtain ⟨rfl, c, hc, rfl⟩ := hy
      have hc' : l[i]? = some c := by simpa [S] using hc
      have hcs : c ∈ sg := ho c (List.mem_of_getElem? hc')
      obtain ⟨rest, hocc⟩ := occ_idx hcs
      refine ⟨rfl, ?_⟩
      refine ⟨_, rfl, a, C, dx, _, _, rfl, r1 _ _ ha, CH.cl, CH.nR, chF_rows _ _, ?_⟩
      refine ⟨_, rfl, a, C, dx, _, _, rfl, r1 _ _ ha, CH.cl, CH.nS, chF_signs _ _, ?_⟩
      refine ⟨⟨_, rfl⟩, _, rfl, _, _, _, rest, rfl, rfl, hocc, ?_⟩
      refine ⟨_, _, _, .str (S (img sg ims c)), rfl, rfl, sm_seqT r1 hrr, at_of rfl ?_, hR _ _ (Same.refl _) fun d hd => ?_⟩
      · unfold txs; rw [List.getElem?_map, img_get hi.1 hcs]; rfl
      · rw [hc'] at hd; rw [Option.some.inj hd]
    · have e : ys = txs (l.map (img sg ims)) := by
        unfold txs; rw [List.map_map]
        exact list_map hly fun j y c e1 e2 => hg j y e1 c e2
      subst e
      refine ⟨_, D, (l.map (img sg ims)).map S, rfl, rfl, .inl (SqL.of (by rw [List.map_map]; exact hDs)), join_ok (m := 1000) (n := 1000) (fun z hz => ?_) (by simpa using hl) (by decide), ?_⟩
      · obtain ⟨c, hc, rfl⟩ := List.mem_map.mp hz
        have := (hi.2 _ (img_mem hi.1 (ho c hc))).2; omega
      · show Q (.str (Txt.join (Str.ofString "") ((l.map (img sg ims)).map S))) H2
        rw [s_nil, join_txs, ← app_flat]
        exact k H2 r1
abbrev s_behind : Stmt := top 31
abbrev n_behind : List Str := ["row", "begin"]
theorem sc_behind : FnScope n_behind ["row", "begin"] (fnScope s_behind) := fnScope_by (by decide +kernel)
def spBehind : Sp := fun vs H Q _ => ∃ (r b : List Nat), vs = [.str (S r), .str (S b)] ∧ r.length ≤ 1000 ∧ b.length ≤ 1000 ∧
  ∀ p, H p = none → Q (.ref p) (upd H p (.lst (txs (beh r b))))
theorem ok_behind (T : BT mg) {f : Addr} {fd : FuncData} (F : Def K mg "_law_behind" s_behind f fd) (b : Binds K fd ["row", "begin"] []) : Cal P w K mg base 1 "_law_behind" spBehind [] := by
  refine cal0 F b .nil sc_behind (fun vs H Q E h => ?_) (fun cdv A outer s H vs Q E hr h => ?_)
  · obtain ⟨r, b, rfl, _⟩ := h; rfl
  · obtain ⟨r, b, rfl, hr1, hb1, k⟩ := h
    have hbl : (S b).length ≤ sizeLine := by rw [S_len]; exact sz hb1 (by decide)
    have hrl : (S r).length ≤ sizeLine := by rw [S_len]; exact sz hr1 (by decide)
    refine ⟨_, (pss_one (ps_ret (pe_ifExp (pt_cmpR op_eq (pe_slice sl_txt (pv 0) po_none (po_some (pe_callB call_len_str (by rfl) T.m_len PySem.boot_len (pa_cons (pv 1) pa_nil)))) (pv 1) (nomark _)) (pe_lst (pa_cons (pe_slice sl_txt (pv 0) (po_some (pe_callB call_len_str (by rfl) T.m_len PySem.boot_len (pa_cons (pv 1) pa_nil))) po_none) pa_nil)) (pe_lst pa_nil)))
      ), ?_⟩
    refine ⟨_, rfl, _, rfl, _, rfl, hbl, _, rfl, _, rfl, hrl, _, rfl, rfl, _, rfl, ?_⟩
    unfold beh at k
    by_cases h : r.take b.length = b
    · rw [if_pos h] at k
      refine iteB (by rw [cutb_to]; exact decide_eq_true (S_iff.mpr h)) ?_
      refine ⟨_, rfl, _, rfl, _, rfl, hbl, _, rfl, _, rfl, hrl, ?_⟩
      refine ⟨by show 1 ≤ sizeLine; decide, fun p hp => ?_⟩
      rw [cutb_from]
      exact k p hp
    · rw [if_neg h] at k
      refine iteN (by rw [cutb_to]; exact decide_eq_false fun e => h (S_iff.mp e)) ?_
      exact ⟨by show 0 ≤ sizeLine; decide, fun p hp => k p hp⟩
abbrev s_tupof : Stmt := top 7
abbrev n_tupof : List Str := ["value", "many"]
theorem sc_tupof : FnScope n_tupof ["value", "many"] (fnScope s_tupof) := fnScope_by (by decide +kernel)
def tupD (n : Nat) : PyData → Bool
  | .tuple ds => decide (ds.length = n)
  | _ => false
def spTup (K : PySem.W.Frag) : Sp := fun vs H Q _ => ∃ (v : V) (d : PyData), vs = [v, .int 2] ∧ Dp K H v d ∧ Q (.bl (tupD 2 d)) H
theorem ok_tupof (T : BT mg) {f : Addr} {fd : FuncData} (F : Def K mg "is_tuple_of" s_tupof f fd) (b : Binds K fd ["value", "many"] []) : Cal P w K mg base 1 "is_tuple_of" (spTup K) [] := by
  refine cal0 F b .nil sc_tupof (fun vs H Q E h => ?_) (fun cdv A outer s H vs Q E hr h => ?_)
  · obtain ⟨v, d, rfl, _⟩ := h; rfl
  · obtain ⟨v, d, rfl, hd, q⟩ := h
    refine ⟨_, (pss_one (ps_ret (pe_and (pe_callB (isiK K) (by rfl) T.m_isinstance PyProof.Rows.boot_isinstance (pa_cons (pv 0) (pa_cons (pe_bltn (v := .ty "tuple") (by rfl) T.m_tuple PyProof.Rows.boot_tuple rfl) pa_nil))) (pe_one (pe_cmpR op_eq (pe_callB (lenK K) (by rfl) T.m_len PySem.boot_len (pa_cons (pv 0) pa_nil)) (pv 1) (nomark _)))))
      ), ?_⟩
    have no : tupD 2 d = false → PySem.W.kitOne K (.type (tyN d)) (.type "tuple") = some false → tRet (tAndV (tCB (fun xs H Q => True ∧ Q (.bl true) H) tNil) (tC (.bl true))) { nx := fun _ H' => Q V.non H', rt := Q } [some v, some (.int 2)] H → True := fun _ _ _ => trivial
    clear no
    have bad : tupD 2 d = false → PySem.W.kitOne K (.type (tyN d)) (.type "tuple") = some false → ∀ {R : V → Hp → Prop}, R = Q → R (.bl false) H := fun e _ R er => by rw [er, ← e]; exact q
    cases hd with
    | @tup p xs ds hp ha =>
      refine ⟨_, rfl, _, _, _, _, true, rfl, .ty _, ty_seqT hp, kit_ty (a := "tuple") (by decide +kernel), true, rfl, iteT ?_⟩
      refine ⟨_, rfl, p, _, rfl, .inr hp, _, rfl, rfl, ?_⟩
      have e : V.bl (decide (V.int (xs.length : Nat) = V.int 2)) = V.bl (tupD 2 (.tuple ds)) := congrArg V.bl (decide_eq_decide.mpr ⟨fun h => by have := V.int.inj h; have := dpa_len ha; omega, fun h => by rw [dpa_len ha, h]; rfl⟩)
      show Q (V.bl (decide (V.int (xs.length : Nat) = V.int 2))) H
      rw [e]
      exact q
    | non => exact ⟨_, rfl, _, _, _, _, false, rfl, .ty _, dp_ty .non, kit_ty (a := "NoneType") (by decide +kernel), false, rfl, iteN rfl q⟩
    | bl b => exact ⟨_, rfl, _, _, _, _, false, rfl, .ty _, dp_ty (.bl b), kit_ty (a := "bool") (by decide +kernel), false, rfl, iteN rfl q⟩
    | int b => exact ⟨_, rfl, _, _, _, _, false, rfl, .ty _, dp_ty (.int b), kit_ty (a := "int") (by decide +kernel), false, rfl, iteN rfl q⟩
    | str b => exact ⟨_, rfl, _, _, _, _, false, rfl, .ty _, dp_ty (.str b), kit_ty (a := "str") (by decide +kernel), false, rfl, iteN rfl q⟩
    | lst h1 h2 => exact ⟨_, rfl, _, _, _, _, false, rfl, .ty _, dp_ty (.lst h1 h2), kit_ty (a := "list") (by decide +kernel), false, rfl, iteN rfl q⟩
def holdsD (sg : List Nat) (ims : List (List Nat)) : PyData → Bool
  | .tuple [.str a, .str b] => decide (Ov sg a.cps.toList) && decide (Ov sg b.cps.toList) && (decide (a.cps.toList ≠ b.cps.toList) && decide (app sg ims a.cps.toList = app sg ims b.cps.toList))
  | _ => false
theorem holds_two {sg : List Nat} {ims : List (List Nat)} {u v : List Nat} (hu : Ov sg u) (hv : Ov sg v) : holdsD sg ims (.tuple [.str (S u), .str (S v)]) = (decide (u ≠ v) && decide (app sg ims u = app sg ims v)) := by
  have e1 : (S u).cps.toList = u := by simp [S]
  have e2 : (S v).cps.toList = v := by simp [S]
  have e : holdsD sg ims (.tuple [.str (S u), .str (S v)]) = (decide (Ov sg u) && decide (Ov sg v) && (decide (u ≠ v) && decide (app sg ims u = app sg ims v))) := rfl
  rw [e, decide_eq_true hu, decide_eq_true hv]; rfl
theorem holds_no {sg : List Nat} {ims : List (List Nat)} {d : PyData} (h : tupD 2 d = false ∨ rowsO sg d = false) : holdsD sg ims d = false := by
  unfold holdsD
  split
  · rename_i a b
    rcases h with h | h
    · cases h
    · have h : (rowO sg (some a.cps.toList) && (rowO sg (some b.cps.toList) && true)) = false := h
      have h : (decide (Ov sg a.cps.toList) && (decide (Ov sg b.cps.toList) && true)) = false := h
      rw [Bool.and_true] at h
      rw [h]; rfl
  · rfl
theorem holds_pair {sg : List Nat} {d : PyData} (h1 : tupD 2 d = true) (h2 : rowsO sg d = true) : ∃ u v, d = .tuple [.str (S u), .str (S v)] ∧ Ov sg u ∧ Ov sg v := by
  cases d with
  | tuple ds =>
    have h1 : ds.length = 2 := of_decide_eq_true h1
    obtain ⟨ims, rfl, ho⟩ := rows_of (sg := sg) (ds := ds) h2
    rw [List.length_map] at h1
    match ims, h1, ho with
    | [u, v], _, ho => exact ⟨u, v, rfl, ho u (by simp), ho v (by simp)⟩
  | _ => cases h1
abbrev s_holds : Stmt := top 17
abbrev n_holds : List Str := ["change", "value"]
theorem sc_holds : FnScope n_holds ["change", "value"] (fnScope s_holds) := fnScope_by (by decide +kernel)
def spHolds (K : PySem.W.Frag) (C : Addr) : Sp := fun vs H Q _ => ∃ (a : Addr) (v : V) (d : PyData) (sg : List Nat) (ims : List (List Nat)), vs = [.ref a, v] ∧ Chg K C H a sg ims ∧ Gd sg ims ∧ Dp K H v d ∧ okD d = true ∧ ∀ H', Same H H' → Q (.bl (holdsD sg ims d)) H'
theorem ok_holds {C : Addr} (T : BT mg) (CH : CC K C) (c_of : Met P w K mg base 1 C "of" (spOf K C) []) (c_tupof : Cal P w K mg base 1 "is_tuple_of" (spTup K) []) (c_isrows : Cal P w K mg base 2 "is_rows" (spIsRowsD K) []) {f : Addr} {fd : FuncData} (F : Def K mg "clash_holds" s_holds f fd) (b : Binds K fd ["change", "value"] []) : Cal P w K mg base 3 "clash_holds" (spHolds K C) [] := by
  refine cal0 F b .nil sc_holds (fun vs H Q E h => ?_) (fun cdv A outer s H vs Q E hr h => ?_)
  · obtain ⟨a, v, d, sg, ims, rfl, _⟩ := h; rfl
  · obtain ⟨a, v, d, sg, ims, rfl, hc, g, hd, ok, k⟩ := h
    obtain ⟨dx, r, ha, hrr⟩ := id hc
    refine ⟨_, (pss_cons (ps_if (PW.pt (pw_or (pt_not (pt_val (pe_c c_tupof hr (by first | decide | omega) (by rfl) (pa_cons (pv 1) (pa_cons pe_int pa_nil))))) (pw_or1 (pt_not (pt_val (pe_c c_isrows hr (by first | decide | omega) (by rfl) (pa_cons (pv 1) (pa_cons (fldK K (pv 0) rfl) pa_nil)))))))) 
        (pss_one (ps_ret pe_bl)
        )
       pss_nil)
      (pss_one (ps_ret (pe_and (pe_cmpR op_ne (pe_ix (ixt K) (pv 1) pe_int (fun _ _ => rfl)) (pe_ix (ixt K) (pv 1) pe_int (fun _ _ => rfl)) (nomark _)) (pe_one (pe_cmpR op_eq (pe_mt c_of hr (by decide) (pv 0) (pa_cons (pe_ix (ixt K) (pv 1) pe_int (fun _ _ => rfl)) pa_nil)) (pe_mt c_of hr (by decide) (pv 0) (pa_cons (pe_ix (ixt K) (pv 1) pe_int (fun _ _ => rfl)) pa_nil)) (nomark _)))))
      )), ?_⟩
    refine ⟨_, rfl, v, d, rfl, hd, ?_⟩
    cases ht : tupD 2 d with
    | false =>
      refine ⟨_, rfl, iteB rfl ?_⟩
      rw [holds_no (.inl ht)] at k
      exact k H (Same.refl H)
    | true =>
    refine ⟨_, rfl, iteN rfl ?_⟩
    refine ⟨_, rfl, _, rfl, a, C, dx, _, _, rfl, ha, CH.cl, CH.nS, chF_signs _ _, v, d, sg, rfl, hd, few_ok ok, fun H1 s1 => ?_⟩
    cases hw : rowsO sg d with
    | false =>
      refine ⟨_, rfl, iteB rfl ?_⟩
      rw [holds_no (.inr hw)] at k
      exact k H1 s1
    | true =>
    refine ⟨_, rfl, iteN rfl ?_⟩
    obtain ⟨x, y, rfl, ox, oy⟩ := holds_pair ht hw
    have okl := okD_items ok rfl
    have lx : x.length ≤ 40 := (okD_text (okl.2 _ (by simp))).1
    have ly : y.length ≤ 40 := (okD_text (okl.2 _ (by simp))).1
    rw [holds_two ox oy] at k
    have hd1 := dp_same s1 _ _ hd
    cases hd1 with
    | @tup p xs _ hp hxs =>
    have exs : xs = [.str (S x), .str (S y)] := by
      cases hxs with
      | cons h1 h2 => cases h2 with
        | cons h3 h4 => cases h4; cases h1; cases h3; rfl
    subst exs
    refine ⟨_, rfl, p, _, 0, _, rfl, rfl, hp, rfl, ?_⟩
    refine ⟨_, rfl, p, _, 1, _, rfl, rfl, hp, rfl, rfl, _, rfl, ?_⟩
    by_cases e : x = y
    · refine iteN (by subst e; simp) ?_
      have : (decide (x ≠ y) && decide (app sg ims x = app sg ims y)) = false := by rw [decide_eq_false (fun h => h e)]; rfl
      rw [this] at k
      exact k H1 s1
    · refine iteB (by simp [S]; exact e) ?_
      refine ⟨_, rfl, a, dx, _, rfl, s1 _ _ ha, chF_no _ _ (by decide +kernel) (by decide +kernel), _, rfl, p, _, 0, _, rfl, rfl, hp, rfl, ?_⟩
      refine ⟨a, sg, ims, x, rfl, hc.same s1, g, ox, by omega, fun H2 s2 => ?_⟩
      have hp2 := sm_seqT s2 hp
      refine ⟨_, rfl, a, dx, _, rfl, s2 _ _ (s1 _ _ ha), chF_no _ _ (by decide +kernel) (by decide +kernel), _, rfl, p, _, 1, _, rfl, rfl, hp2, rfl, ?_⟩
      refine ⟨a, sg, ims, y, rfl, hc.same (s1.trans s2), g, oy, by omega, fun H3 s3 => ?_⟩
      refine ⟨rfl, ?_⟩
      have e1 : (decide (x ≠ y) && decide (app sg ims x = app sg ims y)) = decide (V.str (S (app sg ims x)) = V.str (S (app sg ims y))) := by
        rw [decide_eq_true e, Bool.true_and]
        exact decide_eq_decide.mpr S_iff.symm
      rw [e1] at k
      exact k H3 ((s1.trans s2).trans s3)
end
end Toy
set_option maxHeartbeats 2000000
namespace Toy
open PySem L2 C8 SX LX K4
local macro_rules | `(tactic| walk_at "c") => `(tactic| refine And.intro (by first | (show (0 : Int) < _; omega) | exact Or.inr ⟨by decide, by decide⟩ | exact Or.inl ⟨by decide, by decide⟩ | (exact ⟨by omega, by omega⟩)) ?_)
local macro_rules | `(tactic| walk_at "s1") => `(tactic| first | refine ⟨_, rfl, ?_⟩ | refine ⟨_, _, rfl, rfl, ?_⟩ | refine .inl ⟨_, rfl, ?_⟩ | walk_at "c")
local macro_rules | `(tactic| walk_at "ix") => `(tactic| refine ⟨_, _, _, _, rfl, rfl, SqL.of (by first | assumption | exact upd_same), rfl, ?_⟩)
local macro_rules | `(tactic| walk_at "s") => `(tactic| repeat (walk_at "s1"))
def triV (e : Tri) : HO := .tup [.str (S e.1), .str (S e.2.1), .str (S e.2.2)]
structure TriAt (H : Hp) (ts : List Addr) (es : List Tri) : Prop where
  len : ts.length = es.length
  get : ∀ (i : Nat) (t : Addr) (e : Tri), ts[i]? = some t → es[i]? = some e → H t = some (triV e)
theorem TriAt.nil {H : Hp} : TriAt H [] [] := ⟨rfl, fun _ _ _ h => by simp at h⟩
theorem TriAt.keep {H H' : Hp} {ts : List Addr} {es : List Tri} (h : TriAt H ts es) (k : ∀ t e, H t = some (triV e) → H' t = some (triV e)) : TriAt H' ts es := ⟨h.len, fun i t e h1 h2 => k t e (h.get i t e h1 h2)⟩
theorem TriAt.push {H : Hp} {ts : List Addr} {es : List Tri} {t : Addr} {e : Tri} (h : TriAt H ts es) (ht : H t = some (triV e)) : TriAt H (ts ++ [t]) (es ++ [e]) := by
  refine ⟨by rw [List.length_append, List.length_append, h.len]; rfl, fun i x y h1 h2 => ?_⟩
  have hl := h.len
  by_cases q : i < ts.length
  · rw [List.getElem?_append_left q] at h1
    rw [List.getElem?_append_left (by omega)] at h2
    exact h.get i x y h1 h2
  · rw [List.getElem?_append_right (by omega)] at h1 h2
    rw [hl] at h1
    cases n : i - es.length with
    | zero => rw [n] at h1 h2; cases h1; cases h2; exact ht
    | succ m => rw [n] at h1; simp at h1
theorem TriAt.app {H : Hp} {ts us : List Addr} {es fs : List Tri} (h : TriAt H ts es) (g : TriAt H us fs) : TriAt H (ts ++ us) (es ++ fs) := by
  refine ⟨by rw [List.length_append, List.length_append, h.len, g.len], fun i x y h1 h2 => ?_⟩
  have hl := h.len
  by_cases q : i < ts.length
  · rw [List.getElem?_append_left q] at h1
    rw [List.getElem?_append_left (by omega)] at h2
    exact h.get i x y h1 h2
  · rw [List.getElem?_append_right (by omega)] at h1 h2
    rw [hl] at h1
    exact g.get _ x y h1 h2
theorem tri_put {H : Hp} {p : Addr} {xs ys : List V} {t : Addr} {e : Tri} (hp : H p = some (.lst xs)) (h : H t = some (triV e)) : (upd H p (.lst ys)) t = some (triV e) := by
  rw [upd_ne (fun q => by rw [q, hp] at h; cases h)]; exact h
theorem zip_get {sg : List Nat} {ims : List (List Nat)} {i c : Nat} {im : List Nat} (h1 : sg[i]? = some c) (h2 : ims[i]? = some im) : (sg.zip ims)[i]? = some (c, im) := by
  rw [List.getElem?_zip_eq_some]; exact ⟨h1, h2⟩
theorem flat_more {α β : Type} {l : List α} {f : α → List β} {i : Nat} {x : α} (h : l[i]? = some x) : (l.take (i + 1)).flatMap f = (l.take i).flatMap f ++ f x := by
  rw [List.take_succ, h, List.flatMap_append]
  show _ ++ (f x ++ []) = _
  rw [List.append_nil]
theorem take_all {α : Type} {l : List α} {n : Nat} (h : l.length ≤ n) : l.take n = l := List.take_of_length_le h
theorem Gd.zl {sg : List Nat} {ims : List (List Nat)} (g : Gd sg ims) : min (sg.map fun c => V.str (S [c])).length (txs ims).length = (sg.zip ims).length := by
  rw [List.length_map, txs_len, List.length_zip]
theorem Gd.c1 {sg : List Nat} {ims : List (List Nat)} (g : Gd sg ims) {i : Nat} {im : List Nat} (h : ims[i]? = some im) : im.length ≤ 4 := (g.im.2 im (List.mem_of_getElem? h)).2
theorem tri_step {H H4 : Hp} {p u : Addr} {ts : List Addr} {es : List Tri} {e : Tri} (s : Same H H4) (hp0 : H p = none) (hp : H4 p = some (.lst (ts.map V.ref))) (ht : TriAt H4 ts es) (hu : H4 u = none) :
    Same H (upd (upd H4 u (triV e)) p (.lst (ts.map V.ref ++ [.ref u]))) ∧ (upd (upd H4 u (triV e)) p (.lst (ts.map V.ref ++ [.ref u]))) p = some (.lst ((ts ++ [u]).map V.ref)) ∧ TriAt (upd (upd H4 u (triV e)) p (.lst (ts.map V.ref ++ [.ref u]))) (ts ++ [u]) (es ++ [e]) := by
  have npu : p ≠ u := fun q => by rw [q, hu] at hp; cases hp
  have hp5 : (upd H4 u (triV e)) p = some (.lst (ts.map V.ref)) := by rw [upd_ne npu]; exact hp
  have hs : Same H4 (upd H4 u (triV e)) := sm_new hu
  refine ⟨sm_put (s.trans hs) hp0, by rw [upd_same, List.map_append]; rfl, TriAt.push (ht.keep fun t x h => tri_put hp5 (hs _ _ h)) ?_⟩
  exact tri_put hp5 upd_same
theorem refs_len (ts : List Addr) : (ts.map V.ref).length = ts.length := List.length_map ..
theorem first_few {z : Zs} (hz : z.length ≤ 3) (i j : Nat) (u : Nat × List Nat) : (((z.take i).flatMap fun u => z.flatMap fun v => fst1 u v) ++ (z.take j).flatMap fun v => fst1 u v).length ≤ 12 := by
  have h1 : ∀ p ∈ z.take i, (z.flatMap fun q => fst1 p q).length ≤ 3 := fun p _ => by
    have : (z.flatMap fun q => fst1 p q).length ≤ z.length * 1 := flat_len fun q _ => by unfold fst1; split <;> simp
    omega
  have h2 := flat_len h1
  have h3 : ((z.take j).flatMap fun v => fst1 u v).length ≤ (z.take j).length * 1 := flat_len fun q _ => by unfold fst1; split <;> simp
  rw [List.length_take] at h2 h3
  rw [List.length_append]
  have : min i z.length ≤ 3 := by omega
  have : min j z.length ≤ 3 := by omega
  omega
section
variable {P : Program} {w : World} {K : PySem.W.Frag} {mg : Str → Option Value} {base : Heap}
abbrev s_first : Stmt := top 19
abbrev n_first : List Str := ["change", "found", "sign", "image", "other", "start"]
theorem sc_first : FnScope n_first ["change"] (fnScope s_first) := fnScope_by (by decide +kernel)
def spFirst (K : PySem.W.Frag) (C : Addr) : Sp := fun vs H Q _ => ∃ (a : Addr) (sg : List Nat) (ims : List (List Nat)), vs = [.ref a] ∧ Chg K C H a sg ims ∧ Gd sg ims ∧
  ∀ (p : Addr) (ts : List Addr) (H' : Hp), Same H H' → H p = none → H' p = some (.lst (ts.map V.ref)) → TriAt H' ts (firstT (sg.zip ims)) → Q (.ref p) H'
theorem ok_first {C : Addr} (T : BT mg) (CH : CC K C) {f : Addr} {fd : FuncData} (F : Def K mg "_first_rests" s_first f fd) (b : Binds K fd ["change"] []) : Cal P w K mg base 1 "_first_rests" (spFirst K C) [] := by
  refine cal0 F b .nil sc_first (fun vs H Q E h => ?_) (fun cdv A outer s H vs Q E hr h => ?_)
  · obtain ⟨a, sg, ims, rfl, _⟩ := h; rfl
  · obtain ⟨a, sg, ims, rfl, hc, g, k⟩ := h
    obtain ⟨dx, r, ha, hrr⟩ := id hc
    have z3 := g.good.zip_len
    refine ⟨_, (pss_cons (ps_set (i := 1) sc_first.nd rfl (.inl rfl) (pe_lst pa_nil))
      (pss_cons (ps_for PassesOwn.never rfl (pi_zipX (by rfl) T.m_zip (pa_cons (fldK K (pv 0) rfl) (pa_cons (fldK K (pv 0) rfl) pa_nil))) (tupK K 2 (pgs_cons (pg_name (i := 2) sc_first.nd rfl (.inl rfl)) (pgs_cons (pg_name (i := 3) sc_first.nd rfl (.inl rfl)) pgs_nil))) 
        (pss_one (ps_for PassesOwn.never rfl (pi_zipX (by rfl) T.m_zip (pa_cons (fldK K (pv 0) rfl) (pa_cons (fldK K (pv 0) rfl) pa_nil))) (tupK K 2 (pgs_cons (pg_name (i := 4) sc_first.nd rfl (.inl rfl)) (pgs_cons (pg_name (i := 5) sc_first.nd rfl (.inl rfl)) pgs_nil))) 
          (pss_one (ps_if (PW.pt (pw_and (pt_cmpR op_ne (pv 2) (pv 4) (nomark _)) (pw_and1 (pt_val (pe_bm PySem.F.plainAttrs_str PySem.F.slot_str_startswith PySem.F.type_str_startswith mt_startswith (pv 3) (pa_cons (pv 5) pa_nil)))))) 
            (pss_one (ps_expr (pe_bm PySem.F.plainAttrs_list PySem.F.slot_list_append PySem.F.type_list_append mt_append (pv 1) (pa_cons (pe_tup (pa_cons (pe_slice sl_txt (pv 3) (po_some (pe_callB call_len_str (by rfl) T.m_len PySem.boot_len (pa_cons (pv 5) pa_nil))) po_none) (pa_cons (pv 2) (pa_cons (pv 4) pa_nil)))) pa_nil)))
            )
           pss_nil)
          ))
        ))
      (pss_one (ps_ret (pv 1))
      ))), ?_⟩
    refine ⟨by show 0 ≤ sizeLine; decide, fun p hp => ?_⟩
    have s0 : Same H (upd H p (.lst [])) := sm_new hp
    refine ⟨_, rfl, a, C, dx, _, _, rfl, s0 _ _ ha, CH.cl, CH.nS, chF_signs _ _, ?_⟩
    refine ⟨_, rfl, a, C, dx, _, _, rfl, s0 _ _ ha, CH.cl, CH.nR, chF_rows _ _, ?_⟩
    refine ⟨_, _, .txt (S sg), .tup r, rfl, rfl, rfl, trivial, ⟨_, sm_seqT s0 hrr⟩, ?_⟩
    refine for_it (walk_zipX (K := K) (S1 := .txt (S sg)) (S2 := .tup r) (xs := sg.map fun c => V.str (S [c])) (ys := txs ims)) (fun i σ H' => ∃ (ts : List Addr) (s2 s3 s4 s5 : Option V), σ = [some (.ref a), some (.ref p), s2, s3, s4, s5] ∧
        Same H H' ∧ H' p = some (.lst (ts.map V.ref)) ∧ TriAt H' ts (((sg.zip ims).take i).flatMap fun u => (sg.zip ims).flatMap fun v => fst1 u v))
      ⟨[], _, _, _, _, rfl, s0, upd_same, TriAt.nil⟩ (fun _ _ _ _ ⟨_, _, _, _, _, _, s1, _⟩ => ⟨rfl, sm_seqT s1 hrr⟩) ?_ ?_
    · rintro i x σ H1 H1' hi ⟨ts, s2, s3, s4, s5, rfl, s1, hp1, ht1⟩ ⟨t, x1, x2, rfl, ht, rfl, e1, e2⟩
      obtain ⟨c, hc1, rfl⟩ := chr_get e1
      obtain ⟨im, him, rfl⟩ := txs_get e2
      have hz := zip_get hc1 him
      have il := g.c1 him
      have sT : Same H1 (upd H1 t (.tup [.str (S [c]), .str (S im)])) := sm_new ht
      have hpT := sT _ _ hp1
      have htT := ht1.keep fun u e h => sT _ _ h
      have htt : (upd H1 t (.tup [.str (S [c]), .str (S im)])) t = some (.tup [.str (S [c]), .str (S im)]) := upd_same
      have sHT := s1.trans sT
      generalize upd H1 t (.tup [.str (S [c]), .str (S im)]) = H2 at sT hpT htT htt sHT ⊢
      refine ⟨t, _, rfl, .inl (.inl htt), rfl, _, _, rfl, _, _, rfl, rfl, ?_⟩
      refine ⟨_, rfl, a, C, dx, _, _, rfl, sHT _ _ ha, CH.cl, CH.nS, chF_signs _ _, ?_⟩
      refine ⟨_, rfl, a, C, dx, _, _, rfl, sHT _ _ ha, CH.cl, CH.nR, chF_rows _ _, ?_⟩
      refine ⟨_, _, .txt (S sg), .tup r, rfl, rfl, rfl, trivial, ⟨_, sm_seqT sHT hrr⟩, ?_⟩
      refine for_it (walk_zipX (K := K) (S1 := .txt (S sg)) (S2 := .tup r) (xs := sg.map fun c => V.str (S [c])) (ys := txs ims)) (fun j σ H' => ∃ (ts : List Addr) (s4 s5 : Option V), σ = [some (.ref a), some (.ref p), some (.str (S [c])), some (.str (S im)), s4, s5] ∧
          Same H H' ∧ H' p = some (.lst (ts.map V.ref)) ∧ TriAt H' ts ((((sg.zip ims).take i).flatMap fun u => (sg.zip ims).flatMap fun v => fst1 u v) ++ ((sg.zip ims).take j).flatMap fun v => fst1 (c, im) v))
        ⟨ts, _, _, rfl, sHT, hpT, by rw [List.take_zero, List.flatMap_nil, List.append_nil]; exact htT⟩ (fun _ _ _ _ ⟨_, _, _, _, s1, _⟩ => ⟨rfl, sm_seqT s1 hrr⟩) ?_ ?_
      · clear hpT htT htt sHT sT hp1 ht1 s1
        rintro j x σ H3 H3' hj ⟨ts, s4, s5, rfl, s1, hp1, ht1⟩ ⟨t, x1, x2, rfl, ht, rfl, e1, e2⟩
        obtain ⟨d, hd1, rfl⟩ := chr_get e1
        obtain ⟨jm, hjm, rfl⟩ := txs_get e2
        have hz2 := zip_get hd1 hjm
        have jl := g.c1 hjm
        have sT : Same H3 (upd H3 t (.tup [.str (S [d]), .str (S jm)])) := sm_new ht
        have hpT := sT _ _ hp1
        have htT := ht1.keep fun u e h => sT _ _ h
        have htt : (upd H3 t (.tup [.str (S [d]), .str (S jm)])) t = some (.tup [.str (S [d]), .str (S jm)]) := upd_same
        have sHT := s1.trans sT
        have hfl := flat_more (f := fun v => fst1 (c, im) v) hz2
        generalize upd H3 t (.tup [.str (S [d]), .str (S jm)]) = H4 at sT hpT htT htt sHT ⊢
        refine ⟨t, _, rfl, .inl (.inl htt), rfl, _, _, rfl, _, _, rfl, rfl, ?_⟩
        refine ⟨_, rfl, _, rfl, rfl, _, rfl, ?_⟩
        have done : fst1 (c, im) (d, jm) = [] → ∃ (ts : List Addr) (s4 s5 : Option V), [some (V.ref a), some (V.ref p), some (V.str (S [c])), some (V.str (S im)), some (V.str (S [d])), some (V.str (S jm))] = [some (.ref a), some (.ref p), some (.str (S [c])), some (.str (S im)), s4, s5] ∧
          Same H H4 ∧ H4 p = some (.lst (ts.map V.ref)) ∧ TriAt H4 ts ((((sg.zip ims).take i).flatMap fun u => (sg.zip ims).flatMap fun v => fst1 u v) ++ ((sg.zip ims).take (j + 1)).flatMap fun v => fst1 (c, im) v) := fun e => by
            refine ⟨ts, _, _, rfl, sHT, hpT, ?_⟩
            rw [hfl, e, List.append_nil]
            exact htT
        have ef : fst1 (c, im) (d, jm) = if c ≠ d ∧ im.take jm.length = jm then [(im.drop jm.length, [c], [d])] else [] := rfl
        by_cases hcd : c = d
        · refine iteN (by subst hcd; simp) ?_
          refine iteN rfl ?_
          exact done (by rw [ef, if_neg fun h => h.1 hcd])
        · refine iteB (by simp [S]; exact hcd) ?_
          refine ⟨_, rfl, rfl, _, rfl, _, _, rfl, rfl, _, rfl, ?_⟩
          rw [starts_pre]
          by_cases hpre : im.take jm.length = jm
          · refine iteB (decide_eq_true hpre) ?_
            refine ⟨_, rfl, .inl ⟨rfl, _, SqL.of hpT⟩, ?_⟩
            refine ⟨_, rfl, _, rfl, _, rfl, by rw [S_len]; exact sz jl (by decide), _, rfl, _, rfl, by rw [S_len]; exact sz il (by decide), _, rfl, _, rfl, ?_⟩
            refine ⟨by show 3 ≤ sizeLine; decide, fun u hu => ?_⟩
            rw [cutb_from]
            have st := tri_step (e := (im.drop jm.length, [c], [d])) sHT hp hpT htT hu
            have npu : p ≠ u := fun q => by rw [q, hu] at hpT; cases hpT
            refine ⟨p, _, _, rfl, rfl, by rw [upd_ne npu]; exact hpT, ?_, ?_⟩
            · rw [refs_len, htT.len]
              exact small1000 (Nat.le_trans (first_few z3 i j (c, im)) (by decide))
            · refine ⟨ts ++ [u], _, _, rfl, st.1, st.2.1, ?_⟩
              rw [hfl, ef, if_pos ⟨hcd, hpre⟩, ← List.append_assoc]
              exact st.2.2
          · refine iteN (decide_eq_false hpre) ?_
            exact done (by rw [ef, if_neg fun h => hpre h.2])
      · rintro σ H3 ⟨ts, s4, s5, rfl, s1, hp3, ht3⟩
        rw [g.zl, take_all (Nat.le_refl _)] at ht3
        refine ⟨ts, _, _, _, _, rfl, s1, hp3, ?_⟩
        rw [flat_more hz]
        exact ht3
    · rintro σ H1 ⟨ts, s2, s3, s4, s5, rfl, s1, hp1, ht1⟩
      rw [g.zl, take_all (Nat.le_refl _)] at ht1
      exact ⟨_, rfl, k p ts H1 s1 hp hp1 ht1⟩
end
end Toy
set_option maxHeartbeats 2000000
namespace Toy
open PySem L2 C8 SX LX K4
local macro_rules | `(tactic| walk_at "c") => `(tactic| refine And.intro (by first | (show (0 : Int) < _; omega) | exact Or.inr ⟨by decide, by decide⟩ | exact Or.inl ⟨by decide, by decide⟩ | (exact ⟨by omega, by omega⟩)) ?_)
local macro_rules | `(tactic| walk_at "s1") => `(tactic| first | refine ⟨_, rfl, ?_⟩ | refine ⟨_, _, rfl, rfl, ?_⟩ | refine .inl ⟨_, rfl, ?_⟩ | walk_at "c")
local macro_rules | `(tactic| walk_at "ix") => `(tactic| refine ⟨_, _, _, _, rfl, rfl, SqL.of (by first | assumption | exact upd_same), rfl, ?_⟩)
local macro_rules | `(tactic| walk_at "s") => `(tactic| repeat (walk_at "s1"))
theorem next_few {z : Zs} (hz : z.length ≤ 3) (i : Nat) (r l s : List Nat) (x : List Tri) (hx : x.length ≤ 1) : (((z.take i).flatMap fun p => nxA r l s p ++ nxB r l s p) ++ x).length ≤ 12 := by
  have h1 : ((z.take i).flatMap fun p => nxA r l s p ++ nxB r l s p).length ≤ (z.take i).length * 2 := flat_len fun p _ => by
    rw [List.length_append]; unfold nxA nxB
    split <;> split <;> simp
  rw [List.length_take] at h1
  rw [List.length_append]
  have : min i z.length ≤ 3 := by omega
  omega
theorem nxA_len (r l s : List Nat) (p : Nat × List Nat) : (nxA r l s p).length ≤ 1 := by unfold nxA; split <;> simp
section
variable {P : Program} {w : World} {K : PySem.W.Frag} {mg : Str → Option Value} {base : Heap}
abbrev s_next : Stmt := top 20
abbrev n_next : List Str := ["change", "rest", "longer", "shorter", "found", "sign", "image"]
theorem sc_next : FnScope n_next ["change", "rest", "longer", "shorter"] (fnScope s_next) := fnScope_by (by decide +kernel)
def spNext (K : PySem.W.Frag) (C : Addr) : Sp := fun vs H Q _ => ∃ (a : Addr) (sg : List Nat) (ims : List (List Nat)) (r l s : List Nat), vs = [.ref a, .str (S r), .str (S l), .str (S s)] ∧ Chg K C H a sg ims ∧ Gd sg ims ∧ r.length ≤ 40 ∧ s.length ≤ 40 ∧
  ∀ (p : Addr) (ts : List Addr) (H' : Hp), Same H H' → H p = none → H' p = some (.lst (ts.map V.ref)) → TriAt H' ts (nextT (sg.zip ims) (r, l, s)) → Q (.ref p) H'
theorem ok_next {C : Addr} (T : BT mg) (CH : CC K C) {f : Addr} {fd : FuncData} (F : Def K mg "_next_rests" s_next f fd) (b : Binds K fd ["change", "rest", "longer", "shorter"] []) : Cal P w K mg base 1 "_next_rests" (spNext K C) [] := by
  refine cal0 F b .nil sc_next (fun vs H Q E h => ?_) (fun cdv A outer s H vs Q E hr h => ?_)
  · obtain ⟨a, sg, ims, r, l, s, rfl, _⟩ := h; rfl
  · obtain ⟨a, sg, ims, rr, l, sh, rfl, hc, g, lr, lsh, k⟩ := h
    obtain ⟨dx, r, ha, hrr⟩ := id hc
    have z3 := g.good.zip_len
    refine ⟨_, (pss_cons (ps_set (i := 4) sc_next.nd rfl (.inl rfl) (pe_lst pa_nil))
      (pss_cons (ps_for PassesOwn.never rfl (pi_zipX (by rfl) T.m_zip (pa_cons (fldK K (pv 0) rfl) (pa_cons (fldK K (pv 0) rfl) pa_nil))) (tupK K 2 (pgs_cons (pg_name (i := 5) sc_next.nd rfl (.inl rfl)) (pgs_cons (pg_name (i := 6) sc_next.nd rfl (.inl rfl)) pgs_nil))) 
        (C8.pss_cut (ps_if (PW.pt (pw_and (pt_cmpR op_ne (pv 1) pe_str (nomark _)) (pw_and1 (pt_val (pe_bm PySem.F.plainAttrs_str PySem.F.slot_str_startswith PySem.F.type_str_startswith mt_startswith (pv 6) (pa_cons (pv 1) pa_nil)))))) 
          (pss_one (ps_expr (pe_bm PySem.F.plainAttrs_list PySem.F.slot_list_append PySem.F.type_list_append mt_append (pv 4) (pa_cons (pe_tup (pa_cons (pe_slice sl_txt (pv 6) (po_some (pe_callB call_len_str (by rfl) T.m_len PySem.boot_len (pa_cons (pv 1) pa_nil))) po_none) (pa_cons (pe_op op_add_str (pv 3) (pv 5)) (pa_cons (pv 2) pa_nil)))) pa_nil)))
          )
         pss_nil)
        (pss_one (ps_if (pt_val (pe_bm PySem.F.plainAttrs_str PySem.F.slot_str_startswith PySem.F.type_str_startswith mt_startswith (pv 1) (pa_cons (pv 6) pa_nil))) 
          (pss_one (ps_expr (pe_bm PySem.F.plainAttrs_list PySem.F.slot_list_append PySem.F.type_list_append mt_append (pv 4) (pa_cons (pe_tup (pa_cons (pe_slice sl_txt (pv 1) (po_some (pe_callB call_len_str (by rfl) T.m_len PySem.boot_len (pa_cons (pv 6) pa_nil))) po_none) (pa_cons (pv 2) (pa_cons (pe_op op_add_str (pv 3) (pv 5)) pa_nil)))) pa_nil)))
          )
         pss_nil)
        )))
      (pss_one (ps_ret (pv 4))
      ))), ?_⟩
    refine ⟨by show 0 ≤ sizeLine; decide, fun p hp => ?_⟩
    have s0 : Same H (upd H p (.lst [])) := sm_new hp
    refine ⟨_, rfl, a, C, dx, _, _, rfl, s0 _ _ ha, CH.cl, CH.nS, chF_signs _ _, ?_⟩
    refine ⟨_, rfl, a, C, dx, _, _, rfl, s0 _ _ ha, CH.cl, CH.nR, chF_rows _ _, ?_⟩
    refine ⟨_, _, .txt (S sg), .tup r, rfl, rfl, rfl, trivial, ⟨_, sm_seqT s0 hrr⟩, ?_⟩
    refine for_it (walk_zipX (K := K) (S1 := .txt (S sg)) (S2 := .tup r) (xs := sg.map fun c => V.str (S [c])) (ys := txs ims)) (fun i σ H' => ∃ (ts : List Addr) (s5 s6 : Option V), σ = [some (.ref a), some (.str (S rr)), some (.str (S l)), some (.str (S sh)), some (.ref p), s5, s6] ∧
        Same H H' ∧ H' p = some (.lst (ts.map V.ref)) ∧ TriAt H' ts (((sg.zip ims).take i).flatMap fun u => nxA rr l sh u ++ nxB rr l sh u))
      ⟨[], _, _, rfl, s0, upd_same, TriAt.nil⟩ (fun _ _ _ _ ⟨_, _, _, _, s1, _⟩ => ⟨rfl, sm_seqT s1 hrr⟩) ?_ ?_
    · rintro i x σ H1 H1' hi ⟨ts, s5, s6, rfl, s1, hp1, ht1⟩ ⟨t, x1, x2, rfl, ht, rfl, e1, e2⟩
      obtain ⟨c, hc1, rfl⟩ := chr_get e1
      obtain ⟨im, him, rfl⟩ := txs_get e2
      have hz := zip_get hc1 him
      have il := g.c1 him
      have hfl := flat_more (f := fun u => nxA rr l sh u ++ nxB rr l sh u) hz
      have sT : Same H1 (upd H1 t (.tup [.str (S [c]), .str (S im)])) := sm_new ht
      have hpT := sT _ _ hp1
      have htT := ht1.keep fun u e h => sT _ _ h
      have htt : (upd H1 t (.tup [.str (S [c]), .str (S im)])) t = some (.tup [.str (S [c]), .str (S im)]) := upd_same
      have sHT := s1.trans sT
      generalize upd H1 t (.tup [.str (S [c]), .str (S im)]) = H2 at sT hpT htT htt sHT ⊢
      refine ⟨t, _, rfl, .inl (.inl htt), rfl, _, _, rfl, _, _, rfl, rfl, ?_⟩
      have eA : nxA rr l sh (c, im) = if rr ≠ [] ∧ im.take rr.length = rr then [(im.drop rr.length, sh ++ [c], l)] else [] := rfl
      have eB : nxB rr l sh (c, im) = if rr.take im.length = im then [(rr.drop im.length, l, sh ++ [c])] else [] := rfl
      have bi : (S im).length ≤ sizeLine := by rw [S_len]; exact sz il (by decide)
      have br : (S rr).length ≤ sizeLine := by rw [S_len]; exact sz lr (by decide)
      have bs : (S sh).length + (S [c]).length ≤ sizeLine := by rw [S_len, S_len]; exact sz (m := 41) (by simp; omega) (by decide)
      have scat : S sh ++ S [c] = S (sh ++ [c]) := S_cat _ _
      refine ⟨fun σ H' => ∃ (ts : List Addr), σ = [some (.ref a), some (.str (S rr)), some (.str (S l)), some (.str (S sh)), some (.ref p), some (.str (S [c])), some (.str (S im))] ∧
        Same H H' ∧ H' p = some (.lst (ts.map V.ref)) ∧ TriAt H' ts ((((sg.zip ims).take i).flatMap fun u => nxA rr l sh u ++ nxB rr l sh u) ++ nxA rr l sh (c, im)), ?_, ?_⟩
      · refine ⟨_, rfl, rfl, _, rfl, ?_⟩
        rw [s_nil]
        by_cases hr0 : rr = []
        · refine iteN (by subst hr0; simp) ?_
          refine iteN rfl ?_
          refine ⟨ts, rfl, sHT, hpT, ?_⟩
          rw [eA, if_neg fun h => h.1 hr0, List.append_nil]
          exact htT
        refine iteB (by simp [S]; exact hr0) ?_
        refine ⟨_, rfl, rfl, _, rfl, _, _, rfl, rfl, _, rfl, ?_⟩
        rw [starts_pre]
        by_cases hpre : im.take rr.length = rr
        · refine iteB (decide_eq_true hpre) ?_
          refine ⟨_, rfl, .inl ⟨rfl, _, SqL.of hpT⟩, ?_⟩
          refine ⟨_, rfl, _, rfl, _, rfl, br, _, rfl, _, rfl, bi, _, rfl, _, rfl, _, _, rfl, rfl, bs, _, rfl, ?_⟩
          refine ⟨by show 3 ≤ sizeLine; decide, fun u hu => ?_⟩
          rw [cutb_from, scat]
          have st := tri_step (e := (im.drop rr.length, sh ++ [c], l)) sHT hp hpT htT hu
          have npu : p ≠ u := fun q => by rw [q, hu] at hpT; cases hpT
          refine ⟨p, _, _, rfl, rfl, by rw [upd_ne npu]; exact hpT, ?_, ?_⟩
          · rw [refs_len, htT.len]
            have := next_few z3 i rr l sh [] (Nat.zero_le _)
            rw [List.append_nil] at this
            exact small1000 (Nat.le_trans this (by decide))
          · refine ⟨ts ++ [u], rfl, st.1, st.2.1, ?_⟩
            rw [eA, if_pos ⟨hr0, hpre⟩]
            exact st.2.2
        · refine iteN (decide_eq_false hpre) ?_
          refine ⟨ts, rfl, sHT, hpT, ?_⟩
          rw [eA, if_neg fun h => hpre h.2, List.append_nil]
          exact htT
      · clear hpT htT htt sHT sT hp1 ht1 s1
        rintro σ H3 ⟨ts, rfl, s3, hp3, ht3⟩
        refine ⟨_, rfl, rfl, _, rfl, _, _, rfl, rfl, _, rfl, ?_⟩
        rw [starts_pre]
        by_cases hpre : rr.take im.length = im
        · refine iteB (decide_eq_true hpre) ?_
          refine ⟨_, rfl, .inl ⟨rfl, _, SqL.of hp3⟩, ?_⟩
          refine ⟨_, rfl, _, rfl, _, rfl, bi, _, rfl, _, rfl, br, _, rfl, _, rfl, _, rfl, _, _, rfl, rfl, bs, ?_⟩
          refine ⟨by show 3 ≤ sizeLine; decide, fun u hu => ?_⟩
          rw [cutb_from, scat]
          have st := tri_step (e := (rr.drop im.length, l, sh ++ [c])) s3 hp hp3 ht3 hu
          have npu : p ≠ u := fun q => by rw [q, hu] at hp3; cases hp3
          refine ⟨p, _, _, rfl, rfl, by rw [upd_ne npu]; exact hp3, ?_, ?_⟩
          · rw [refs_len, ht3.len]
            exact small1000 (Nat.le_trans (next_few z3 i rr l sh _ (nxA_len _ _ _ _)) (by decide))
          · refine ⟨ts ++ [u], _, _, rfl, st.1, st.2.1, ?_⟩
            rw [hfl, eB, if_pos hpre, ← List.append_assoc]
            exact st.2.2
        · refine iteN (decide_eq_false hpre) ?_
          refine ⟨ts, _, _, rfl, s3, hp3, ?_⟩
          rw [hfl, eB, if_neg hpre, List.append_nil]
          exact ht3
    · rintro σ H1 ⟨ts, s5, s6, rfl, s1, hp1, ht1⟩
      rw [g.zl, take_all (Nat.le_refl _)] at ht1
      exact ⟨_, rfl, k p ts H1 s1 hp hp1 ht1⟩
end
end Toy
set_option maxHeartbeats 2000000
namespace Toy
open PySem L2 C8 SX LX K4
local macro_rules | `(tactic| walk_at "c") => `(tactic| refine And.intro (by first | (show (0 : Int) < _; omega) | exact Or.inr ⟨by decide, by decide⟩ | exact Or.inl ⟨by decide, by decide⟩ | (exact ⟨by omega, by omega⟩)) ?_)
local macro_rules | `(tactic| walk_at "s1") => `(tactic| first | refine ⟨_, rfl, ?_⟩ | refine ⟨_, _, rfl, rfl, ?_⟩ | refine .inl ⟨_, rfl, ?_⟩ | walk_at "c")
local macro_rules | `(tactic| walk_at "ix") => `(tactic| refine ⟨_, _, _, _, rfl, rfl, SqL.of (by first | assumption | exact upd_same), rfl, ?_⟩)
local macro_rules | `(tactic| walk_at "s") => `(tactic| repeat (walk_at "s1"))
def wK (W : List Tri) (us : List Addr) : List (Key × V) := List.zipWith (fun (e : Tri) u => ((Sum.inr (S e.1) : Key), V.ref u)) W us
structure PairAt (H : Hp) (us : List Addr) (W : List Tri) : Prop where
  len : us.length = W.length
  get : ∀ (i : Nat) (u : Addr) (e : Tri), us[i]? = some u → W[i]? = some e → H u = some (.tup [.str (S e.2.1), .str (S e.2.2)])
theorem PairAt.keep {H H' : Hp} {us : List Addr} {W : List Tri} (h : PairAt H us W) (k : ∀ u x y, H u = some (.tup [x, y]) → H' u = some (.tup [x, y])) : PairAt H' us W := ⟨h.len, fun i u e h1 h2 => k u _ _ (h.get i u e h1 h2)⟩
theorem PairAt.push {H : Hp} {us : List Addr} {W : List Tri} {u : Addr} {e : Tri} (h : PairAt H us W) (hu : H u = some (.tup [.str (S e.2.1), .str (S e.2.2)])) : PairAt H (us ++ [u]) (W ++ [e]) := by
  refine ⟨by rw [List.length_append, List.length_append, h.len]; rfl, fun i x y h1 h2 => ?_⟩
  have hl := h.len
  by_cases q : i < us.length
  · rw [List.getElem?_append_left q] at h1
    rw [List.getElem?_append_left (by omega)] at h2
    exact h.get i x y h1 h2
  · rw [List.getElem?_append_right (by omega)] at h1 h2
    rw [hl] at h1
    cases n : i - W.length with
    | zero => rw [n] at h1 h2; cases h1; cases h2; exact hu
    | succ m => rw [n] at h1; simp at h1
theorem inr_inj {a b : List Nat} (h : (Sum.inr (S a) : Key) = Sum.inr (S b)) : a = b := by simpa [S] using Sum.inr.inj h
theorem wK_none {W : List Tri} {us : List Addr} {r : List Nat} (h : r ∉ W.map (·.1)) : valV (wK W us) (Sum.inr (S r)) = none := valV_none fun p hp e => by
  obtain ⟨i, hi⟩ := List.getElem?_of_mem hp
  unfold wK at hi
  rw [List.getElem?_zipWith_eq_some] at hi
  obtain ⟨x, y, hx, hy, rfl⟩ := hi
  exact h (List.mem_map.mpr ⟨x, List.mem_of_getElem? hx, inr_inj e⟩)
theorem wK_some : ∀ {W : List Tri} {us : List Addr} {i : Nat} {e : Tri} {u : Addr}, (W.map (·.1)).Nodup → W[i]? = some e → us[i]? = some u → valV (wK W us) (Sum.inr (S e.1)) = some (.ref u)
  | [], _, _, _, _, _, h, _ => by simp at h
  | _ :: _, [], _, _, _, _, _, h => by simp at h
  | x :: W, v :: us, 0, e, u, nd, h1, h2 => by cases h1; cases h2; exact valV_pos rfl
  | x :: W, v :: us, i + 1, e, u, nd, h1, h2 => by
    rw [List.map_cons, List.nodup_cons] at nd
    have h1 : W[i]? = some e := h1
    have h2 : us[i]? = some u := h2
    show valV ((Sum.inr (S x.1), V.ref v) :: wK W us) _ = _
    rw [valV_neg fun q => ?_]
    · exact wK_some nd.2 h1 h2
    · exact nd.1 (by rw [inr_inj q]; exact List.mem_map.mpr ⟨e, List.mem_of_getElem? h1, rfl⟩)
theorem wK_put {W : List Tri} {us : List Addr} {e : Tri} {u : Addr} (hl : us.length = W.length) (h : e.1 ∉ W.map (·.1)) : putK (wK W us) (Sum.inr (S e.1)) (.ref u) = wK (W ++ [e]) (us ++ [u]) := by
  rw [putK_new _ (wK_none h)]
  unfold wK
  rw [List.zipWith_append hl.symm]
  rfl
theorem wK_len {W : List Tri} {us : List Addr} (hl : us.length = W.length) : (wK W us).length = W.length := by
  unfold wK; rw [List.length_zipWith]; omega
theorem wK_keys : ∀ {W : List Tri} {us : List Addr}, us.length = W.length → (wK W us).map (·.1) = (W.map (·.1)).map fun r => (Sum.inr (S r) : Key)
  | [], [], _ => rfl
  | _ :: _, [], h => by simp at h
  | [], _ :: _, h => by simp at h
  | e :: W, u :: us, h => by
    show Sum.inr (S e.1) :: (wK W us).map (·.1) = _
    rw [wK_keys (by simpa using h)]; rfl
section
variable {P : Program} {w : World} {K : PySem.W.Frag} {mg : Str → Option Value} {base : Heap}
abbrev s_ways : Stmt := top 18
abbrev n_ways : List Str := ["change", "ways", "found", "at", "rest", "longer", "shorter"]
theorem sc_ways : FnScope n_ways ["change"] (fnScope s_ways) := fnScope_by (by decide +kernel)
def spWays (K : PySem.W.Frag) (C : Addr) : Sp := fun vs H Q _ => ∃ (a : Addr) (sg : List Nat) (ims : List (List Nat)), vs = [.ref a] ∧ Chg K C H a sg ims ∧ Gd sg ims ∧ Full ims ∧
  ∀ (d : Addr) (W : List Tri) (us : List Addr) (H' : Hp), Same H H' → H d = none → H' d = some (.dK (wK W us)) → PairAt H' us W → (W.map (·.1)).Nodup → W.length ≤ 10 → (∀ e ∈ W, GE sg ims 11 e) → (∀ r, r ∈ W.map (·.1) ↔ Rest sg ims r) → Q (.ref d) H'
theorem ok_ways {C : Addr} (T : BT mg) (CH : CC K C) (c_first : Cal P w K mg base 1 "_first_rests" (spFirst K C) []) (c_next : Cal P w K mg base 1 "_next_rests" (spNext K C) []) {f : Addr} {fd : FuncData} (F : Def K mg "_ways_to_rests" s_ways f fd) (b : Binds K fd ["change"] []) : Cal P w K mg base 2 "_ways_to_rests" (spWays K C) [] := by
  refine cal0 F b .nil sc_ways (fun vs H Q E h => ?_) (fun cdv A outer s H vs Q E hr h => ?_)
  · obtain ⟨a, sg, ims, rfl, _⟩ := h; rfl
  · obtain ⟨a, sg, ims, rfl, hc, g, hf, k⟩ := h
    refine ⟨_, (pss_cons (ps_set (i := 1) sc_ways.nd rfl (.inl rfl) pe_dnewK)
      (pss_cons (ps_set (i := 2) sc_ways.nd rfl (.inl rfl) (pe_c c_first hr (by first | decide | omega) (by rfl) (pa_cons (pv 0) pa_nil)))
      (pss_cons (ps_set (i := 3) sc_ways.nd rfl (.inl rfl) pe_int)
      (pss_cons (ps_while PassesOwn.never (pt_cmpR op_lt (pv 3) (pe_callB (lenK K) (by rfl) T.m_len PySem.boot_len (pa_cons (pv 2) pa_nil)) (nomark _)) 
        (pss_cons (ps_asg (pe_ix (ixl K) (pv 2) (pv 3) (fun _ _ => rfl)) (tupK K 3 (pgs_cons (pg_name (i := 4) sc_ways.nd rfl (.inl rfl)) (pgs_cons (pg_name (i := 5) sc_ways.nd rfl (.inl rfl)) (pgs_cons (pg_name (i := 6) sc_ways.nd rfl (.inl rfl)) pgs_nil)))))
        (C8.pss_cut (ps_if (pt_cmp (pc_dnotin (hu_of hr) (pv 4) (pv 1))) 
          (pss_cons (ps_dput (hu_of hr) (pv 1) (pv 4) (pe_tup (pa_cons (pv 5) (pa_cons (pv 6) pa_nil))) rfl)
          (pss_one (ps_expr (pe_bm PySem.F.plainAttrs_list PySem.F.slot_list_extend PySem.F.type_list_extend mt_extend (pv 2) (pa_cons (pe_c c_next hr (by first | decide | omega) (by rfl) (pa_cons (pv 0) (pa_cons (pv 4) (pa_cons (pv 5) (pa_cons (pv 6) pa_nil))))) pa_nil)))
          ))
         pss_nil)
        (pss_one (ps_aug (i := 3) sc_ways.nd rfl (.inl rfl) pe_int ip_add)
        ))))
      (pss_one (ps_ret (pv 1))
      ))))), ?_⟩
    refine fun d hd => ?_
    have s0 : Same H (upd H d (.dK [])) := sm_new hd
    have hd0 : (upd H d (.dK [])) d = some (.dK []) := upd_same
    generalize upd H d (.dK []) = H0 at s0 hd0 ⊢
    refine ⟨_, rfl, a, sg, ims, rfl, hc.same s0, g, fun p ts H1 s1 hpn hp1 ht1 => ?_⟩
    have hd1 := s1 _ _ hd0
    have s01 := s0.trans s1
    have hpH : H p = none := s0.free hpn
    have npd : p ≠ d := fun e => by rw [e, hd0] at hpn; cases hpn
    have gg := g.good
    refine ⟨fun m σ H' => ∃ (F W : List Tri) (ts us : List Addr) (at_ : Nat) (s4 s5 s6 : Option V), m = 100 - at_ ∧ σ = [some (.ref a), some (.ref d), some (.ref p), some (.int (at_ : Nat)), s4, s5, s6] ∧
      Same H H' ∧ H' p = some (.lst (ts.map V.ref)) ∧ TriAt H' ts F ∧ H' d = some (.dK (wK W us)) ∧ PairAt H' us W ∧ WS sg ims F W at_ ∧ at_ ≤ F.length, ?_, ?_⟩
    · exact ⟨100, firstT (sg.zip ims), [], ts, [], 0, _, _, _, rfl, rfl, s01, hp1, ht1, hd1, ⟨rfl, fun i u e h => by simp at h⟩, ws0 gg, Nat.zero_le _⟩
    clear hp1 ht1 hd1 s01 s1 hd0 s0 hpn
    rintro m σ H2 ⟨F, W, ts, us, at_, s4, s5, s6, rfl, rfl, s2, hp2, ht2, hd2, hu2, hW, hat⟩
    obtain ⟨few1, few2⟩ := hW.few gg hf
    refine ⟨_, rfl, _, rfl, p, _, rfl, .inl (SqL.of hp2), _, _, rfl, rfl, _, rfl, ?_⟩
    rw [refs_len, ht2.len]
    refine ite2 (fun hlt => ?_) (fun hlt => ?_)
    · have hal : at_ < F.length := by rw [decide_eq_true_eq] at hlt; omega
      obtain ⟨e, he⟩ : ∃ e, F[at_]? = some e := ⟨_, List.getElem?_eq_getElem hal⟩
      obtain ⟨t, htt⟩ : ∃ t, ts[at_]? = some t := ⟨_, List.getElem?_eq_getElem (by rw [ht2.len]; exact hal)⟩
      have hte := ht2.get at_ t e htt he
      have ge := hW.ge e (List.mem_of_getElem? he)
      refine ⟨fun σ' H' => ∃ (F W : List Tri) (ts us : List Addr) (s4 s5 s6 : Option V), σ' = [some (.ref a), some (.ref d), some (.ref p), some (.int ((at_ + 1 : Nat) : Int)), s4, s5, s6] ∧
        Same H H' ∧ H' p = some (.lst (ts.map V.ref)) ∧ TriAt H' ts F ∧ H' d = some (.dK (wK W us)) ∧ PairAt H' us W ∧ WS sg ims F W (at_ + 1) ∧ at_ + 1 ≤ F.length,
        fun σ' H' ⟨F, W, ts, us, s4, s5, s6, a1, a2, a3, a4, a5, a6, a7, a8⟩ => ⟨100 - (at_ + 1), by omega, F, W, ts, us, at_ + 1, s4, s5, s6, rfl, a1, a2, a3, a4, a5, a6, a7, a8⟩, ?_⟩
      refine ⟨_, rfl, _, rfl, p, _, at_, .ref t, rfl, rfl, SqL.of hp2, at_of rfl (by rw [List.getElem?_map, htt]; rfl), ?_⟩
      refine ⟨t, _, rfl, .inl (.inl hte), rfl, _, _, rfl, _, _, rfl, _, _, rfl, rfl, ?_⟩
      obtain ⟨r, l, sh⟩ := e
      refine ⟨fun σ' H' => ∃ (F W : List Tri) (ts us : List Addr), σ' = [some (.ref a), some (.ref d), some (.ref p), some (.int (at_ : Nat)), some (.str (S r)), some (.str (S l)), some (.str (S sh))] ∧
        Same H H' ∧ H' p = some (.lst (ts.map V.ref)) ∧ TriAt H' ts F ∧ H' d = some (.dK (wK W us)) ∧ PairAt H' us W ∧ WS sg ims F W (at_ + 1) ∧ at_ + 1 ≤ F.length, ?_, ?_⟩
      · refine ⟨_, rfl, _, rfl, d, valV (wK W us) (Sum.inr (S r)), rfl, .inl ⟨_, Sum.inr (S r), .inl hd2, rfl, rfl⟩, _, rfl, ?_⟩
        by_cases hin : r ∈ W.map (·.1)
        · obtain ⟨x, hx, rfl⟩ := List.mem_map.mp hin
          obtain ⟨i, hi⟩ := List.getElem?_of_mem hx
          obtain ⟨u, hui⟩ : ∃ u, us[i]? = some u := ⟨_, List.getElem?_eq_getElem (by rw [hu2.len]; exact (List.getElem?_eq_some_iff.mp hi).1)⟩
          rw [wK_some hW.nd hi hui]
          refine iteN rfl ?_
          exact ⟨F, W, ts, us, rfl, s2, hp2, ht2, hd2, hu2, hW.skip he hin, hal⟩
        · rw [wK_none hin]
          refine iteB rfl ?_
          have ll := ge.ll
          have lsh := ge.ls
          dsimp only at ll lsh
          refine ⟨_, rfl, _, rfl, by show 2 ≤ sizeLine; decide, fun u hu => ?_⟩
          have npu : p ≠ u := fun q => by rw [q, hu] at hp2; cases hp2
          have ndu : d ≠ u := fun q => by rw [q, hu] at hd2; cases hd2
          refine ⟨_, rfl, _, rfl, d, _, rfl, DPut.k (k := Sum.inr (S r)) (by rw [upd_ne ndu]; exact hd2) (by rw [wK_len hu2.len]; exact small1000 (by omega)), ?_⟩
          rw [wK_put (e := (r, l, sh)) hu2.len hin]
          have s3 : Same H2 (upd H2 u (.tup [.str (S l), .str (S sh)])) := sm_new hu
          have s4' : Same H (upd (upd H2 u (.tup [.str (S l), .str (S sh)])) d (.dK (wK (W ++ [(r, l, sh)]) (us ++ [u])))) := sm_put (s2.trans s3) hd
          have hp4 : (upd (upd H2 u (.tup [.str (S l), .str (S sh)])) d (.dK (wK (W ++ [(r, l, sh)]) (us ++ [u])))) p = some (.lst (ts.map V.ref)) := by rw [upd_ne npd, upd_ne npu]; exact hp2
          have hd4 : (upd (upd H2 u (.tup [.str (S l), .str (S sh)])) d (.dK (wK (W ++ [(r, l, sh)]) (us ++ [u])))) d = some (.dK (wK (W ++ [(r, l, sh)]) (us ++ [u]))) := upd_same
          have ht4 : TriAt (upd (upd H2 u (.tup [.str (S l), .str (S sh)])) d (.dK (wK (W ++ [(r, l, sh)]) (us ++ [u])))) ts F := ht2.keep fun t e h => by
            rw [upd_ne (fun q => by rw [q, hd2] at h; cases h)]; exact s3 _ _ h
          have hu4 : PairAt (upd (upd H2 u (.tup [.str (S l), .str (S sh)])) d (.dK (wK (W ++ [(r, l, sh)]) (us ++ [u])))) (us ++ [u]) (W ++ [(r, l, sh)]) := by
            refine PairAt.push (hu2.keep fun v x y h => ?_) ?_
            · rw [upd_ne (fun q => by rw [q, hd2] at h; cases h)]; exact s3 _ _ h
            · rw [upd_ne ndu.symm, upd_same]
          generalize upd (upd H2 u (.tup [.str (S l), .str (S sh)])) d (.dK (wK (W ++ [(r, l, sh)]) (us ++ [u]))) = H4 at s4' hp4 hd4 ht4 hu4 ⊢
          refine ⟨_, rfl, .inl ⟨rfl, _, SqL.of hp4⟩, ?_⟩
          refine ⟨_, rfl, _, rfl, _, rfl, _, rfl, a, sg, ims, r, l, sh, rfl, hc.same s4', g, ?_, by omega, fun p2 ts2 H5 s5' hn2 hp5 ht5 => ?_⟩
          · have := rest_base gg.hl hf ge.rst
            have hb : ∀ x ∈ baseL ims, x.length ≤ 4 := fun x hx => by
              rcases List.mem_cons.mp hx with rfl | hx
              · exact Nat.zero_le _
              · obtain ⟨im, h1, h2⟩ := List.mem_flatMap.mp hx
                obtain ⟨kk, _, rfl⟩ := List.mem_map.mp h2
                rw [List.length_drop]
                have := gg.h4 im h1
                omega
            exact Nat.le_trans (hb _ this) (by decide)
          have hnx := nextT_len gg.zip_len (r, l, sh)
          have npp2 : p ≠ p2 := fun q => by rw [q, hn2] at hp4; cases hp4
          have hp5' := s5' _ _ hp4
          refine ⟨p, p2, _, _, rfl, rfl, hp5', hp5, ?_, ?_⟩
          · rw [refs_len, refs_len, ht4.len, ht5.len]; exact Nat.le_of_lt (small1000 (by omega))
          · have hW5 := hW.put gg hf he hin
            refine ⟨F ++ nextT (sg.zip ims) (r, l, sh), W ++ [(r, l, sh)], ts ++ ts2, us ++ [u], rfl, sm_put (s4'.trans s5') hpH, by rw [upd_same, List.map_append], ?_, ?_, ?_, hW5, by rw [List.length_append]; omega⟩
            · exact ((ht4.keep fun t e h => s5' _ _ h).app ht5).keep fun t e h => tri_put hp5' h
            · rw [upd_ne npd.symm]; exact s5' _ _ hd4
            · exact hu4.keep fun v x y h => by
                rw [upd_ne (fun q => by rw [q, hp4] at h; cases h)]; exact s5' _ _ h
      · rintro σ' H3 ⟨F', W', ts', us', rfl, b1, b2, b3, b4, b5, b6, b7⟩
        exact ⟨_, rfl, _, _, rfl, rfl, F', W', ts', us', _, _, _, rfl, b1, b2, b3, b4, b5, b6, b7⟩
    · have hal : F.length ≤ at_ := by rw [decide_eq_true_eq] at hlt; omega
      exact ⟨_, rfl, k d W us H2 s2 hd hd2 hu2 hW.nd few1 (fun e he => (hW.ge e (hW.sub e he)).mono (by omega)) (hW.all gg hal)⟩
end
end Toy
set_option maxHeartbeats 4000000
namespace LX
open PySem PySem.Spec PyProof.Rows L2 C8 SX
section
variable {prog : Program} {w : World} {A : Around} {E : Value → Shared → Prop} {s : Shared}
theorem set_of_listI {l : Addr} {items : Array Value} {ns : List Int} {Q : Value → Shared → Prop} (hh : A.handled = none) (hl : s.heap.IsList l items) (hi : IntsAre items.toList ns) (room : ns.length + 1 < scanBound)
    (h : ∀ (h' : Heap) (tk c : Nat), SetR w h' s.heap.objs.size (fun j => decide (j ∈ ns)) c → c ≤ ns.length → (∀ b o, s.heap.get? b = some o → h'.get? b = some o) → Q (.ref s.heap.objs.size) { s with heap := h', toks := tk }) :
    wpAny (model prog w) A (call (.type "set") [.ref l]) Q E s := by
  obtain ⟨c, tl, hmro⟩ := PySem.F.called_set.mro
  have hmade := PySem.F.called_set.made
  have hsub := PySem.F.called_set.sub
  refine wpAny_call (codeAny_of_tree ?_)
  refine wpAny_pure ⟨Code.quiet_builtin _ (by decide +kernel), codeAny_builtin PySem.F.entry_type_call ?_⟩
  rw [Around.under_plain (weight_type_call_type "set" [.ref l] []) rfl]
  have nt := PySem.F.called_set.notType
  have cc := PySem.F.called_set.canCreate
  have ct := PySem.F.typeCall_set_1 (.ref l)
  repeat (any_goals (first | assumption | wp_step))
  refine codeAny_mono (code_set_led1 (.ref l) (E := E) (Q₁ := fun obj s1 => obj = .ref s.heap.objs.size ∧ s1 = { s with heap := s.heap.push (setO (!w.params.followText "set-order")) }) ⟨rfl, rfl⟩) fun r s1 hr => ?_
  match r, hr with
  | .ok (.ret obj), hr =>
    obtain ⟨rfl, rfl⟩ := hr
    have hS : (s.heap.push (setO (!w.params.followText "set-order"))).get? s.heap.objs.size = some (setO (!w.params.followText "set-order")) := Heap.get?_push_size _ rfl
    have hTy : Shared.TypeIs { s with heap := s.heap.push (setO (!w.params.followText "set-order")) } (.ref s.heap.objs.size) "set" := ⟨_, hS, rfl⟩
    have li := PySem.F.called_set.init.lookup
    have bi := PySem.F.called_set.init.bind (.ref s.heap.objs.size)
    repeat (any_goals (first | assumption | wp_step))
    refine codeAny_mono (codeAny_call_builtin (R := wants (fun r s2 => r = .none ∧ ∃ h' tk, s2 = { s with heap := h', toks := tk } ∧ (∃ c, SetR w h' s.heap.objs.size (fun j => decide (j ∈ ns)) c ∧ c ≤ ns.length) ∧ (∀ b o, s.heap.get? b = some o → h'.get? b = some o)) E)
      PySem.F.called_set.init.plain PySem.F.entry_set_init (check_set_init_1 hTy ?_)) fun r2 s2 hr2 => ?_
    · obtain ⟨⟨oc, od, odt, osl⟩, hol, hcl, nl, hdl⟩ := hl
      dsimp only at hcl hdl
      subst hcl hdl
      have hol' : (s.heap.push (setO (!w.params.followText "set-order"))).get? l = some { cls := .type "list", dict := od, data := .seq items nl, slots := osl } := Heap.get?_push_of_some _ hol
      have ss := PySem.F.sub_list_set
      have sf := PySem.F.sub_list_frozenset
      have ne : (Value.type "list" == Value.type "dict") = false := by decide
      have hl1 : (s.heap.push (setO (!w.params.followText "set-order"))).IsList l items := ⟨_, hol', rfl, nl, rfl⟩
      unfold Builtin.«set.__init__» noKeywords Builtin.Frozenset.updateFrom
      generalize hPI : pyIter = PI
      wp_walk
      subst hPI
      refine wpAny_pyIter_list hl1 ?_
      refine wpAny_bind (wpAny_runValue ?_)
      have hlS : l < s.heap.objs.size := Heap.lt_size hol
      have hz : (s.heap.push (setO (!w.params.followText "set-order"))).objs.size = s.heap.objs.size + 1 := Heap.size_push ..
      have neI : l ≠ (s.heap.push (setO (!w.params.followText "set-order"))).objs.size := by rw [hz]; exact Nat.ne_of_lt (Nat.lt_succ_of_lt hlS)
      have off : s.heap.objs.size ∉ [(s.heap.push (setO (!w.params.followText "set-order"))).objs.size, l] := by
        rw [hz]; simp only [List.mem_cons, List.not_mem_nil, or_false, not_or]
        exact ⟨Nat.ne_of_lt (Nat.lt_succ_self _), Nat.ne_of_gt hlS⟩
      have hsz : items.size = ns.length := by have q := IntsAre.length hi; rw [Array.length_toList] at q; exact q
      refine set_update_ints ((Walks.list (A := A.in1.in1.in1) (by simp [hh]) _ l neI items).toS) s.heap.objs.size off ns hsz room (fun i v hv => ?_) _ 0 _ rfl (Nat.zero_le _) ⟨⟨_, Heap.get?_push_size _ rfl, rfl, rfl⟩, hl1.push _⟩ ⟨0, Nat.le_refl _, setR_new_at (Heap.get?_push_of_some _ hS)⟩ fun s' c hm hc hS' => ?_
      · have hlt : i < ns.length := by rw [← hsz]; exact (Array.getElem?_eq_some_iff.mp hv).1
        obtain ⟨t, e⟩ := PyProof.Rows.IntsAre.int_at hi i v (by rw [Array.getElem?_toList]; exact hv)
        exact ⟨ns[i], t, List.getElem?_eq_getElem hlt, by rw [e, List.getD_eq_getElem?_getD, List.getElem?_eq_getElem hlt]; rfl⟩
      · obtain ⟨h', g', d', tk', os'⟩ := s'
        obtain rfl : g' = s.gens := hm.gens
        obtain rfl : d' = s.drawn := hm.drawn
        obtain rfl : os' = s.os := hm.os
        refine wpAny_pure (wpAny_pure ⟨rfl, h', tk', rfl, ⟨c, hS', by rw [← hsz]; exact hc⟩, fun b o e => ?_⟩)
        have hb : b < s.heap.objs.size := Heap.lt_size e
        refine hm.heap b o (fun hmem => ?_) (Heap.get?_push_of_some _ (Heap.get?_push_of_some _ e))
        have e' : b = s.heap.objs.size ∨ b = (s.heap.push (setO (!w.params.followText "set-order"))).objs.size := by simpa using hmem
        rcases e' with e' | e'
        · exact Nat.ne_of_lt hb e'
        · rw [hz] at e'; exact Nat.ne_of_lt (Nat.lt_succ_of_lt hb) e'
    · match r2, hr2 with
      | .ok (.ret r), hr2 =>
        obtain ⟨rfl, h', tk, rfl, ⟨c, hS', hc⟩, hk'⟩ := hr2
        repeat (any_goals (first | assumption | wp_step))
        exact h _ _ _ hS' hc hk'
      | .error e, hr2 => exact hr2
  | .error e, hr => exact hr
end
section
variable {X : Cx}
theorem sortI_run {pins : List (Addr × Obj)} {σ : L2.St} {H1 : Hp} {Q : VK} {s1 : Shared} {a : Addr} {ns : List Int} {c : Nat} (hc : X.calm = true) (I2 : Inv X pins σ H1 s1) (hS : SetR X.w s1.heap a (fun j => decide (j ∈ ns)) c) (hcn : c ≤ ns.length) (hl : ns.length < 60)
    (q1 : ∀ (p : Addr) (ms : List Int), H1 p = none → ms.Pairwise (· < ·) → (∀ k, k ∈ ms ↔ k ∈ ns) → Q (.ref p) (upd H1 p (.lst (ms.map V.int)))) : wpAny (model X.prog X.w) X.A (call (.builtin "sorted") [.ref a]) (EP X pins σ Q) X.xe s1 := by
  refine sorted_set hS (I2.ok.hd hc) (by omega) fun s' p out cc ms k g o hp hg hi hs hmm hlen => ?_
  have hn : H1 p = none := I2.hok.fresh hp
  have hlen2 : (ms.map V.int).length ≤ sizeLine := by rw [List.length_map, sizeLine_eq]; omega
  have J : Inv X pins σ (upd H1 p (.lst (ms.map V.int))) { s1 with heap := s'.heap, gens := s'.gens, drawn := s'.drawn, toks := s'.toks } :=
    I2.call (ch := []) (Un.laid k hp hn) (I2.hok.laid k hp ⟨hlen2, out.toList, cc, vals_of_ints hi, hg⟩) (by rw [g]; exact I2.bare) (fun _ z => nomatch z)
  have e : s' = { s1 with heap := s'.heap, gens := s'.gens, drawn := s'.drawn, toks := s'.toks } := by
    cases s'; cases s1; cases o; rfl
  rw [e]
  exact ⟨.ref p, _, J, rfl, q1 p ms hn hs fun z => by rw [hmm z, decide_eq_true_eq]⟩
def tSortSetI (K : PySem.W.Frag) (ta : TE) : TE := fun σ H Q => ta σ H fun x H1 => ∃ (l : Addr) (ns : List Int), x = .ref l ∧ SqL K H1 l (ns.map V.int) ∧ ns.length < 60 ∧ ∀ (p : Addr) (ms : List Int), H1 p = none → ms.Pairwise (· < ·) → (∀ k, k ∈ ms ↔ k ∈ ns) → Q (.ref p) (upd H1 p (.lst (ms.map V.int)))
theorem pe_sortSetI {a : Expr} {ta : TE} {p p2 q pos : Pos} (hc : X.calm = true) (hg : Gl X "sorted") (hm : X.mg "sorted" = none) (hg2 : Gl X "set") (hm2 : X.mg "set" = none) (ha : PE X a ta)
    (na : starEach [a] X.env = (false, eval a X.env) :: starEach [] X.env := by rfl) : PE X (.Call (.Name "sorted" p) [.Call (.Name "set" p2) [a] [] q] [] pos) (tSortSetI X.K ta) := by
  refine ⟨fun pins s σ H Q I h => ?_⟩
  refine Call_ (ld_blt I hg hm PyProof.Rows.boot_sorted (PyProof.Rows.callWith_builtin1 (PyProof.Rows.args_cons ?_ rfl) rfl rfl))
  refine Call_ (ld_blt I hg2 hm2 PyProof.Rows.boot_set (PyProof.Rows.callWith_type1 (PyProof.Rows.args_cons (thn (ha.run pins s σ H _ I h) fun v s1 ⟨x, H1, I1, r1, q1⟩ => PyProof.Rows.args_nil ?_) na) na rfl))
  obtain ⟨l, ns, rfl, hq, hl, q1⟩ := q1
  cases r1
  obtain ⟨its, r, pl, hz⟩ := I1.list hq
  refine set_of_listI (ns := ns) (I1.ok.hd hc) pl.isList (by simpa using r.ints) (by unfold scanBound; omega) fun h' u c hS hcn hk => ?_
  refine PyProof.Rows.args_nil ?_
  exact sortI_run (s1 := { s1 with heap := h', toks := u }) hc (I1.kept hk) hS hcn hl q1
end
end LX
set_option maxHeartbeats 4000000
namespace LX
open PySem PySem.Spec PyProof.Rows L2 C8 SX
theorem nodup_le {α : Type} [DecidableEq α] : ∀ {l m : List α}, l.Nodup → (∀ x ∈ l, x ∈ m) → l.length ≤ m.length
  | [], m, _, _ => Nat.zero_le _
  | a :: l, m, nd, h => by
    rw [List.nodup_cons] at nd
    have ha := h a List.mem_cons_self
    have ih := nodup_le (l := l) (m := m.erase a) nd.2 fun x hx => by
      have hne : x ≠ a := fun e => nd.1 (e ▸ hx)
      exact (List.mem_erase_of_ne hne).mpr (h x (List.mem_cons_of_mem _ hx))
    rw [List.length_erase_of_mem ha] at ih
    have := List.length_pos_of_mem ha
    rw [List.length_cons]
    omega
section
variable {w : World} {a : Addr} {ks ks' : List Str}
theorem SetT.of_mem {h : Heap} (R : SetT w h a ks) (e : ∀ k, k ∈ ks ↔ k ∈ ks') : SetT w h a ks' := by
  obtain ⟨o, es, ep, t, ho, hex, hd, g, nd, hm, hk, r⟩ := R
  refine ⟨o, es, ep, t, ho, hex, hd, g, nd, fun k => (hm k).trans (e k), ?_, r⟩
  have := nodup_le nd fun x hx => (e x).mp ((hm x).mp hx)
  rw [List.length_map, Array.length_toList] at this
  exact this
end
section
variable {prog : Program} {w : World} {A : Around} {R : Result → Shared → Prop} {I S : Addr} {fp wr : List Addr} {G : Array GenState → Array GenState → Prop} {n : Nat} {P : Nat → Value → Prop} {St : Nat → Shared → Prop}
theorem setT_loopL (W : WalksS prog w A.in1 I fp wr G n P St) (off : S ∉ fp) {xs B : List Str} (hl : xs.length = n) (hB : ∀ x ∈ xs, x ∈ B) (room : B.length + 1 < scanBound) (val : ∀ i v, P i v → ∃ x t, xs[i]? = some x ∧ v = .str x t) :
    ∀ (k i : Nat) (s : Shared) (ks : List Str), i + k = n → St i s → SetT w s.heap S ks → ks.Nodup → (∀ z, z ∈ ks ↔ z ∈ xs.take i) → (∀ s' ks', Moved (S :: wr) G s s' → SetT w s'.heap S ks' → ks'.Nodup → (∀ z, z ∈ ks' ↔ z ∈ xs) → R (.ok (.ret .none)) s') →
      codeAny (model prog w) A (.builtin "set.update.loop" ⟨[.ref S, .ref I], []⟩) R s
  | 0, i, s, ks, hk, hst, he, hnd, hz, hR => by
    obtain rfl : i = n := hk
    refine codeAny_builtin PyProof.Rows.F.entry_set_update_loop ?_
    rw [Around.under_plainId PyProof.Rows.F.plain_set_update_loop _]
    refine wpAny_bind (W.done s _ _ hst fun s' hm => wpAny_pure (hR s' ks (hm.mono fun b hb => List.mem_cons_of_mem _ hb) (he.stay fun o e => hm.heap S o (fun h => off (W.sub _ h)) e) hnd (fun z => ?_)))
    rw [hz z, List.take_of_length_le (by omega)]
  | k + 1, i, s, ks, hk, hst, he, hnd, hz, hR => by
    refine codeAny_builtin PyProof.Rows.F.entry_set_update_loop ?_
    rw [Around.under_plainId PyProof.Rows.F.plain_set_update_loop _]
    refine wpAny_bind (W.item i s _ _ (by omega) hst fun v s' hP hst' hm => ?_)
    obtain ⟨x, u, hx, rfl⟩ := val i v hP
    have he2 : SetT w s'.heap S ks := he.stay fun o e => hm.heap S o (fun h => off (W.sub _ h)) e
    have hle := nodup_le hnd fun z h => hB z (List.mem_of_mem_take ((hz z).mp h))
    show wpAny _ A.in1 (holding [Value.str x u] (setAdd S (.str x u)) >>= _) _ _ s'
    refine wpAny_bind (wpAny_holding ?_)
    unfold setAdd
    refine wpAny_holding (wpAny_bind ((PySem.strKind prog w).pyHash (k := x) (is_strT _ _) ?_))
    refine setT_add (s := { s' with toks := s'.toks + 1 }) he2 (by omega) fun b h2 sb he3 => ?_
    have hmem : ∀ z, z ∈ x :: ks ↔ z ∈ xs.take (i + 1) := fun z => by
      rw [List.mem_cons, hz z, List.take_succ, hx, List.mem_append]
      show z = _ ∨ z ∈ xs.take i ↔ z ∈ xs.take i ∨ z ∈ [x]
      rw [List.mem_singleton]
      exact Or.comm
    obtain ⟨ks2, he4, hnd2, hz2⟩ : ∃ ks2, SetT w h2 S ks2 ∧ ks2.Nodup ∧ ∀ z, z ∈ ks2 ↔ z ∈ xs.take (i + 1) := by
      by_cases q : x ∈ ks
      · have e : ∀ z, z ∈ x :: ks ↔ z ∈ ks := fun z => by rw [List.mem_cons]; exact ⟨fun h => h.elim (fun h => h ▸ q) id, .inr⟩
        exact ⟨ks, he3.of_mem e, hnd, fun z => (e z).symm.trans (hmem z)⟩
      · exact ⟨x :: ks, he3, List.nodup_cons.mpr ⟨q, hnd⟩, hmem⟩
    refine wpAny_pure ⟨plainId_quiet PyProof.Rows.F.plain_set_update_loop _, setT_loopL W off hl hB room val k (i + 1) _ ks2 (by omega) (W.frame _ s' _ _ hst' (Nat.le_succ _) fun b hb o e => ?_) he4 hnd2 hz2 fun s2 ks3 hm2 he5 hn3 hz3 => ?_⟩
    · rw [sb.2 b (fun h => off (h ▸ hb))]; exact e
    · refine hR s2 ks3 (Moved.trans W.gtrans ((hm.mono fun b hb => List.mem_cons_of_mem _ hb).then_heap (Nat.le_succ _) fun b o hb e => ?_) hm2) he5 hn3 hz3
      rw [sb.2 b (fun h => hb (by rw [h]; exact List.mem_cons_self))]; exact e
end
section
variable {prog : Program} {w : World} {A : Around} {E : Value → Shared → Prop} {s : Shared}
theorem set_of_listT {l : Addr} {items : Array Value} {xs B : List Str} {Q : Value → Shared → Prop} (hh : A.handled = none) (hl : s.heap.IsList l items) (hi : PyProof.Rows.StrsAre items.toList xs) (hB : ∀ x ∈ xs, x ∈ B) (room : B.length + 1 < scanBound)
    (h : ∀ (h' : Heap) (tk : Nat) ks, SetT w h' s.heap.objs.size ks → ks.Nodup → (∀ z, z ∈ ks ↔ z ∈ xs) → (∀ b o, s.heap.get? b = some o → h'.get? b = some o) → Q (.ref s.heap.objs.size) { s with heap := h', toks := tk }) :
    wpAny (model prog w) A (call (.type "set") [.ref l]) Q E s := by
  obtain ⟨c, tl, hmro⟩ := PySem.F.called_set.mro
  have hmade := PySem.F.called_set.made
  have hsub := PySem.F.called_set.sub
  refine wpAny_call (codeAny_of_tree ?_)
  refine wpAny_pure ⟨Code.quiet_builtin _ (by decide +kernel), codeAny_builtin PySem.F.entry_type_call ?_⟩
  rw [Around.under_plain (weight_type_call_type "set" [.ref l] []) rfl]
  have nt := PySem.F.called_set.notType
  have cc := PySem.F.called_set.canCreate
  have ct := PySem.F.typeCall_set_1 (.ref l)
  repeat (any_goals (first | assumption | wp_step))
  refine codeAny_mono (code_set_led1 (.ref l) (E := E) (Q₁ := fun obj s1 => obj = .ref s.heap.objs.size ∧ s1 = { s with heap := s.heap.push { cls := .type "set", dict := none, data := .set #[] 0 (.fresh 0 0 (!w.params.followText "set-order")) } }) ⟨rfl, rfl⟩) fun r s1 hr => ?_
  match r, hr with
  | .ok (.ret obj), hr =>
    obtain ⟨rfl, rfl⟩ := hr
    have f0 : SetT w _ s.heap.objs.size [] := setT_fresh (w := w) (h := s.heap)
    generalize (!w.params.followText "set-order") = led at f0 ⊢
    have hS : (s.heap.push (setO led)).get? s.heap.objs.size = some (setO led) := Heap.get?_push_size _ rfl
    have hTy : Shared.TypeIs { s with heap := s.heap.push (setO led) } (.ref s.heap.objs.size) "set" := ⟨_, hS, rfl⟩
    have li := PySem.F.called_set.init.lookup
    have bi := PySem.F.called_set.init.bind (.ref s.heap.objs.size)
    repeat (any_goals (first | assumption | wp_step))
    refine codeAny_mono (codeAny_call_builtin (R := wants (fun r s2 => r = .none ∧ ∃ h' tk ks, s2 = { s with heap := h', toks := tk } ∧ SetT w h' s.heap.objs.size ks ∧ ks.Nodup ∧ (∀ z, z ∈ ks ↔ z ∈ xs) ∧ (∀ b o, s.heap.get? b = some o → h'.get? b = some o)) E)
      PySem.F.called_set.init.plain PySem.F.entry_set_init (check_set_init_1 hTy ?_)) fun r2 s2 hr2 => ?_
    · obtain ⟨⟨oc, od, odt, osl⟩, hol, hcl, nl, hdl⟩ := hl
      dsimp only at hcl hdl
      subst hcl hdl
      have hol' : (s.heap.push (setO led)).get? l = some { cls := .type "list", dict := od, data := .seq items nl, slots := osl } := Heap.get?_push_of_some _ hol
      have ss := PySem.F.sub_list_set
      have sf := PySem.F.sub_list_frozenset
      have ne : (Value.type "list" == Value.type "dict") = false := by decide
      have hl1 : (s.heap.push (setO led)).IsList l items := ⟨_, hol', rfl, nl, rfl⟩
      unfold Builtin.«set.__init__» noKeywords Builtin.Frozenset.updateFrom
      generalize hPI : pyIter = PI
      wp_walk
      subst hPI
      refine wpAny_pyIter_list hl1 ?_
      refine wpAny_bind (wpAny_runValue ?_)
      have hlS : l < s.heap.objs.size := Heap.lt_size hol
      have hz : (s.heap.push (setO led)).objs.size = s.heap.objs.size + 1 := Heap.size_push ..
      have neI : l ≠ (s.heap.push (setO led)).objs.size := by rw [hz]; exact Nat.ne_of_lt (Nat.lt_succ_of_lt hlS)
      have off : s.heap.objs.size ∉ [(s.heap.push (setO led)).objs.size, l] := by
        rw [hz]; simp only [List.mem_cons, List.not_mem_nil, or_false, not_or]
        exact ⟨Nat.ne_of_lt (Nat.lt_succ_self _), Nat.ne_of_gt hlS⟩
      have hsz : xs.length = items.size := by rw [← StrsAre.len_eq hi, Array.length_toList]
      refine setT_loopL (xs := xs) (B := B) ((Walks.list (A := A.in1.in1.in1) (by simp [hh]) _ l neI items).toS) off hsz hB room (fun i v hv => ?_) items.size 0 _ [] (Nat.zero_add _) ⟨⟨_, Heap.get?_push_size _ rfl, rfl, rfl⟩, hl1.push _⟩ (f0.stay fun o' e => Heap.get?_push_of_some _ e) List.nodup_nil (fun z => by simp) fun s' ks' hm hS' hn' hz' => ?_
      · obtain ⟨t, e⟩ := SS.strs_at hi i v (by rw [Array.getElem?_toList]; exact hv)
        have hlt : i < xs.length := by rw [hsz]; exact (Array.getElem?_eq_some_iff.mp hv).1
        exact ⟨xs[i], t, List.getElem?_eq_getElem hlt, by rw [e, List.getD_eq_getElem?_getD, List.getElem?_eq_getElem hlt]; rfl⟩
      · obtain ⟨h', g', d', tk', os'⟩ := s'
        obtain rfl : g' = s.gens := hm.gens
        obtain rfl : d' = s.drawn := hm.drawn
        obtain rfl : os' = s.os := hm.os
        refine wpAny_pure (wpAny_pure ⟨rfl, h', tk', ks', rfl, hS', hn', hz', fun b o e => ?_⟩)
        have hb : b < s.heap.objs.size := Heap.lt_size e
        refine hm.heap b o (fun hmem => ?_) (Heap.get?_push_of_some _ (Heap.get?_push_of_some _ e))
        have e' : b = s.heap.objs.size ∨ b = (s.heap.push (setO led)).objs.size := by simpa using hmem
        rcases e' with e' | e'
        · exact Nat.ne_of_lt hb e'
        · rw [hz] at e'; exact Nat.ne_of_lt (Nat.lt_succ_of_lt hb) e'
    · match r2, hr2 with
      | .ok (.ret r), hr2 =>
        obtain ⟨rfl, h', tk, ks, rfl, hS', hn', hz', hk'⟩ := hr2
        repeat (any_goals (first | assumption | wp_step))
        exact h _ _ _ hS' hn' hz' hk'
      | .error e, hr2 => exact hr2
  | .error e, hr => exact hr
end
theorem rising_pw : ∀ (ds : List (List Nat)) (d : List Nat), risingS (S d) (ds.map S) = true → (∀ e ∈ ds, ¬ e < d) ∧ ds.Pairwise fun a b => ¬ b < a
  | [], _, _ => ⟨(fun _ h => nomatch h), .nil⟩
  | c :: ds, d, h => by
    have h : (!ltCps (S c).cps.toList (S d).cps.toList && risingS (S c) (ds.map S)) = true := h
    rw [Bool.and_eq_true] at h
    obtain ⟨i1, i2⟩ := rising_pw ds c h.2
    have hcd : ¬ c < d := by
      have h1 := h.1
      rw [ltCps_eq] at h1
      have h1 : (!decide (c < d)) = true := by simpa [S] using h1
      simpa using h1
    refine ⟨fun e he => ?_, List.pairwise_cons.mpr ⟨i1, i2⟩⟩
    rcases List.mem_cons.mp he with rfl | he
    · exact hcd
    · exact List.not_lt.mpr (List.le_trans (List.not_lt.mp hcd) (List.not_lt.mp (i1 e he)))
theorem sorted_pw {ds : List (List Nat)} (h : sortedS (ds.map S) = true) : ds.Pairwise fun a b => ¬ b < a := by
  cases ds with
  | nil => exact .nil
  | cons d ds =>
    obtain ⟨i1, i2⟩ := rising_pw ds d h
    exact List.pairwise_cons.mpr ⟨i1, i2⟩
theorem sorted_rise {ds : List (List Nat)} (h : sortedS (ds.map S) = true) (n : ds.Nodup) : ds.Pairwise (· < ·) :=
  ((sorted_pw h).and n).imp fun ⟨a, b⟩ => by
    rcases List.le_iff_lt_or_eq.mp (List.not_lt.mp a) with h | h
    · exact h
    · exact absurd h b
theorem txts_of : ∀ {ss : List Str} {xs : List (List Nat)}, (∀ k ∈ ss, ∃ x ∈ xs, k = S x) → ∃ ds : List (List Nat), ss = ds.map S
  | [], _, _ => ⟨[], rfl⟩
  | k :: ss, xs, h => by
    obtain ⟨c, _, rfl⟩ := h k List.mem_cons_self
    obtain ⟨ds, rfl⟩ := txts_of (ss := ss) (xs := xs) fun x hx => h x (List.mem_cons_of_mem _ hx)
    exact ⟨c :: ds, rfl⟩
theorem S_inj' {a b : List Nat} (h : S a = S b) : a = b := by simpa [S] using h
theorem map_S_nodup {ds : List (List Nat)} (h : (ds.map S).Nodup) : ds.Nodup := List.Pairwise.of_map S (fun a b hne e => hne (by rw [e])) h
theorem mem_map_S {x : List Nat} {xs : List (List Nat)} : S x ∈ xs.map S ↔ x ∈ xs := by
  rw [List.mem_map]
  exact ⟨fun ⟨y, hy, e⟩ => S_inj' e ▸ hy, fun h => ⟨x, h, rfl⟩⟩
section
variable {X : Cx}
theorem sortXL_run {pins : List (Addr × Obj)} {σ : L2.St} {H1 : Hp} {Q : VK} {s1 : Shared} {a : Addr} {ks : List Str} {xs : List (List Nat)} (hc : X.calm = true) (I2 : Inv X pins σ H1 s1) (hS : SetT X.w s1.heap a ks) (hz : ∀ z, z ∈ ks ↔ z ∈ xs.map S) (hn : ks.length < 60)
    (q1 : ∀ (p : Addr) (ds : List (List Nat)), H1 p = none → ds.Pairwise (· < ·) → (∀ c, c ∈ ds ↔ c ∈ xs) → Q (.ref p) (upd H1 p (.lst (txs ds)))) : wpAny (model X.prog X.w) X.A (call (.builtin "sorted") [.ref a]) (EP X pins σ Q) X.xe s1 := by
  refine sorted_setX hS (I2.ok.hd hc) (by omega) fun s' p out c ss k2 g2 o2 hp ho hS2 srt nd mem hle => ?_
  have hmem : ∀ k, k ∈ ss ↔ k ∈ xs.map S := fun k => (mem k).trans (hz k)
  obtain ⟨ds, rfl⟩ := txts_of (xs := xs) fun k hk => let ⟨x, hx, e⟩ := List.mem_map.mp ((hmem k).mp hk); ⟨x, hx, e.symm⟩
  have hn2 : H1 p = none := I2.hok.fresh hp
  have eL : ((ds.map S).map V.str) = txs ds := by unfold txs; rw [List.map_map]; rfl
  have hlen : ((ds.map S).map V.str).length ≤ sizeLine := by
    rw [List.length_map, sizeLine_eq]
    omega
  have J : Inv X pins σ (upd H1 p (.lst ((ds.map S).map V.str))) { s1 with heap := s'.heap, gens := s'.gens, drawn := s'.drawn, toks := s'.toks } :=
    I2.call (ch := []) (Un.laid k2 hp hn2) (I2.hok.laid k2 hp ⟨hlen, out.toList, c, vals_of_strs hS2, ho⟩) (by rw [g2]; exact I2.bare) (fun _ z => nomatch z)
  have e : s' = { s1 with heap := s'.heap, gens := s'.gens, drawn := s'.drawn, toks := s'.toks } := by
    cases s'; cases s1; cases o2; rfl
  rw [e]
  rw [eL] at J
  exact ⟨.ref p, _, J, rfl, q1 p ds hn2 (sorted_rise srt (map_S_nodup nd)) fun c => by rw [← mem_map_S, hmem, mem_map_S]⟩
def tSortSetL (K : PySem.W.Frag) (ta : TE) : TE := fun σ H Q => ta σ H fun x H1 => ∃ (l : Addr) (xs B : List (List Nat)), x = .ref l ∧ SqL K H1 l (txs xs) ∧ (∀ x ∈ xs, x ∈ B) ∧ B.length < 60 ∧ ∀ (p : Addr) (ds : List (List Nat)), H1 p = none → ds.Pairwise (· < ·) → (∀ c, c ∈ ds ↔ c ∈ xs) → Q (.ref p) (upd H1 p (.lst (txs ds)))
theorem pe_sortSetL {a : Expr} {ta : TE} {p p2 q pos : Pos} (hc : X.calm = true) (hg : Gl X "sorted") (hm : X.mg "sorted" = none) (hg2 : Gl X "set") (hm2 : X.mg "set" = none) (ha : PE X a ta)
    (na : starEach [a] X.env = (false, eval a X.env) :: starEach [] X.env := by rfl) : PE X (.Call (.Name "sorted" p) [.Call (.Name "set" p2) [a] [] q] [] pos) (tSortSetL X.K ta) := by
  refine ⟨fun pins s σ H Q I h => ?_⟩
  refine Call_ (ld_blt I hg hm PyProof.Rows.boot_sorted (PyProof.Rows.callWith_builtin1 (PyProof.Rows.args_cons ?_ rfl) rfl rfl))
  refine Call_ (ld_blt I hg2 hm2 PyProof.Rows.boot_set (PyProof.Rows.callWith_type1 (PyProof.Rows.args_cons (thn (ha.run pins s σ H _ I h) fun v s1 ⟨x, H1, I1, r1, q1⟩ => PyProof.Rows.args_nil ?_) na) na rfl))
  obtain ⟨l, xs, B, rfl, hq, hB, h60, q1⟩ := q1
  cases r1
  have hq' : SqL X.K H1 l ((xs.map S).map V.str) := by
    have : ((xs.map S).map V.str) = txs xs := by unfold txs; rw [List.map_map]; rfl
    rw [this]; exact hq
  obtain ⟨its, r, pl, hz⟩ := I1.list hq'
  refine set_of_listT (xs := xs.map S) (B := B.map S) (I1.ok.hd hc) pl.isList (by simpa using r.strs) (fun x hx => by obtain ⟨y, hy, rfl⟩ := List.mem_map.mp hx; exact List.mem_map.mpr ⟨y, hB y hy, rfl⟩) (by rw [List.length_map]; unfold scanBound; omega) fun h' u ks hS hnd hzz hk => ?_
  refine PyProof.Rows.args_nil ?_
  have hkl := nodup_le hnd fun z h => by
    obtain ⟨y, hy, rfl⟩ := List.mem_map.mp ((hzz z).mp h)
    exact List.mem_map.mpr ⟨y, hB y hy, rfl⟩
  rw [List.length_map] at hkl
  exact sortXL_run (s1 := { s1 with heap := h', toks := u }) hc (I1.kept hk) hS hzz (Nat.lt_of_le_of_lt hkl h60) q1
end
end LX
set_option maxHeartbeats 2000000
namespace Toy
open PySem L2 C8 SX LX K4
local macro_rules | `(tactic| walk_at "c") => `(tactic| refine And.intro (by first | (show (0 : Int) < _; omega) | exact Or.inr ⟨by decide, by decide⟩ | exact Or.inl ⟨by decide, by decide⟩ | (exact ⟨by omega, by omega⟩)) ?_)
local macro_rules | `(tactic| walk_at "s1") => `(tactic| first | refine ⟨_, rfl, ?_⟩ | refine ⟨_, _, rfl, rfl, ?_⟩ | refine .inl ⟨_, rfl, ?_⟩ | walk_at "c")
local macro_rules | `(tactic| walk_at "ix") => `(tactic| refine ⟨_, _, _, _, rfl, rfl, SqL.of (by first | assumption | exact upd_same), rfl, ?_⟩)
local macro_rules | `(tactic| walk_at "s") => `(tactic| repeat (walk_at "s1"))
def Clear (sg : List Nat) (ims : List (List Nat)) : Prop := Full ims ∧ ¬ Rest sg ims []
theorem full_or (ims : List (List Nat)) : (decide (([] : List Nat) ∈ ims) = true ∧ ¬ Full ims) ∨ (decide (([] : List Nat) ∈ ims) = false ∧ Full ims) := by
  by_cases h : ([] : List Nat) ∈ ims
  · exact .inl ⟨decide_eq_true h, fun f => f [] h rfl⟩
  · exact .inr ⟨decide_eq_false h, fun im hm e => h (e ▸ hm)⟩
theorem mem_txs {x : List Nat} {ims : List (List Nat)} : V.str (S x) ∈ txs ims ↔ x ∈ ims := by
  unfold txs
  rw [List.mem_map]
  exact ⟨fun ⟨y, hy, e⟩ => S_iff.mp e ▸ hy, fun h => ⟨x, h, rfl⟩⟩
theorem keys_list {W : List Tri} {us : List Addr} (hl : us.length = W.length) : ((wK W us).map fun kv => kV kv.1) = ((W.map (·.1)).map S).map V.str := by
  have : ((wK W us).map fun kv => kV kv.1) = ((wK W us).map (·.1)).map kV := by rw [List.map_map]; rfl
  rw [this, wK_keys hl, List.map_map, List.map_map, List.map_map, List.map_map]
  rfl
theorem flat_txs (xs : List (List Nat)) : (txs xs).all flatV = true := by
  unfold txs
  rw [List.all_map, List.all_eq_true]
  exact fun _ _ => rfl
section
variable {P : Program} {w : World} {K : PySem.W.Frag} {mg : Str → Option Value} {base : Heap}
abbrev s_rests : Stmt := top 15
abbrev n_rests : List Str := ["change"]
theorem sc_rests : FnScope n_rests ["change"] (fnScope s_rests) := fnScope_by (by decide +kernel)
def spRests (K : PySem.W.Frag) (C : Addr) : Sp := fun vs H Q _ => ∃ (a : Addr) (sg : List Nat) (ims : List (List Nat)), vs = [.ref a] ∧ Chg K C H a sg ims ∧ Gd sg ims ∧
  (¬ Full ims → ∀ H', Same H H' → Q .non H') ∧
  (Full ims → ∀ (p : Addr) (xs : List (List Nat)) (H' : Hp), Same H H' → H' p = some (.tup (txs xs)) → xs.Pairwise (· < ·) → xs.length ≤ 10 → (∀ x, x ∈ xs ↔ Rest sg ims x) → Q (.ref p) H')
theorem ok_rests {C : Addr} (T : BT mg) (CH : CC K C) (c_ways : Cal P w K mg base 2 "_ways_to_rests" (spWays K C) []) {f : Addr} {fd : FuncData} (F : Def K mg "rests" s_rests f fd) (b : Binds K fd ["change"] []) : Cal P w K mg base 3 "rests" (spRests K C) [] := by
  refine cal0 F b .nil sc_rests (fun vs H Q E h => ?_) (fun cdv A outer s H vs Q E hr h => ?_)
  · obtain ⟨a, sg, ims, rfl, _⟩ := h; rfl
  · obtain ⟨a, sg, ims, rfl, hc, g, k0, k1⟩ := h
    obtain ⟨dx, r, ha, hrr⟩ := id hc
    refine ⟨_, (pss_cons (ps_if (pt_cmpR (inK K) pe_str (fldK K (pv 0) rfl) rfl) 
        (pss_one (ps_ret pe_non)
        )
       pss_nil)
      (pss_one (ps_ret (pe_callTy (tupleK K) (by rfl) T.m_tuple PyProof.Rows.boot_tuple (pa_cons (pe_callB cr_sortedS (by rfl) T.m_sorted PyProof.Rows.boot_sorted (pa_cons (pe_callTy (call_listD rfl) (by rfl) T.m_list PyProof.Rows.boot_list (pa_cons (pe_c c_ways hr (by first | decide | omega) (by rfl) (pa_cons (pv 0) pa_nil)) pa_nil)) pa_nil)) pa_nil)))
      )), ?_⟩
    refine ⟨_, rfl, a, C, dx, _, _, rfl, ha, CH.cl, CH.nR, chF_rows _ _, ?_⟩
    rw [s_nil]
    refine ⟨r, _, rfl, .inr hrr, rfl, flat_txs ims, ?_⟩
    rw [show (if false = true then !inV (.str (S [])) (txs ims) else inV (.str (S [])) (txs ims)) = decide (([] : List Nat) ∈ ims) from inV_txs]
    refine ⟨_, rfl, ?_⟩
    rcases full_or ims with ⟨e, hf⟩ | ⟨e, hf⟩
    · exact iteB e (k0 hf H (Same.refl H))
    · refine iteN e ?_
      refine ⟨_, rfl, a, sg, ims, rfl, hc, g, hf, fun d W us H1 s1 hdn hd1 hu1 nd few ge all => ?_⟩
      refine ⟨d, _, rfl, .inl hd1, fun p hp => ?_⟩
      rw [keys_list hu1.len]
      have s2 : Same H1 (upd H1 p (.lst (((W.map (·.1)).map S).map V.str))) := sm_new hp
      refine ⟨p, (W.map (·.1)).map S, rfl, SqL.of upd_same, by rw [List.length_map, List.length_map]; omega, fun ys q hperm hsrt hq => ?_⟩
      obtain ⟨xs, rfl⟩ := txts_of (ss := ys) (xs := W.map (·.1)) fun kk hk => by
        obtain ⟨x, hx, e⟩ := List.mem_map.mp (hperm.mem_iff.mp hk)
        exact ⟨x, hx, e.symm⟩
      have hnd : xs.Nodup := map_S_nodup (hperm.nodup_iff.mpr (List.Pairwise.map S (fun a b hne e => hne (S_inj' e)) nd))
      have hmem : ∀ x, x ∈ xs ↔ Rest sg ims x := fun x => by rw [← all x, ← mem_map_S, hperm.mem_iff, mem_map_S]
      have hlen : xs.length ≤ 10 := by have := hperm.length_eq; rw [List.length_map, List.length_map, List.length_map] at this; omega
      have eL : ((xs.map S).map V.str) = txs xs := by unfold txs; rw [List.map_map]; rfl
      rw [eL]
      refine ⟨q, _, rfl, .inl ⟨SqL.of upd_same, fun l hl => ?_⟩⟩
      have s3 := sm_new (o := .lst (txs xs)) hq
      exact k1 hf l xs _ (((s1.trans s2).trans s3).trans (sm_new hl)) upd_same (sorted_rise hsrt hnd) hlen hmem
end
end Toy
set_option maxHeartbeats 2000000
namespace Toy
open PySem L2 C8 SX LX K4
local macro_rules | `(tactic| walk_at "c") => `(tactic| refine And.intro (by first | (show (0 : Int) < _; omega) | exact Or.inr ⟨by decide, by decide⟩ | exact Or.inl ⟨by decide, by decide⟩ | (exact ⟨by omega, by omega⟩)) ?_)
local macro_rules | `(tactic| walk_at "s1") => `(tactic| first | refine ⟨_, rfl, ?_⟩ | refine ⟨_, _, rfl, rfl, ?_⟩ | refine .inl ⟨_, rfl, ?_⟩ | walk_at "c")
local macro_rules | `(tactic| walk_at "ix") => `(tactic| refine ⟨_, _, _, _, rfl, rfl, SqL.of (by first | assumption | exact upd_same), rfl, ?_⟩)
local macro_rules | `(tactic| walk_at "s") => `(tactic| repeat (walk_at "s1"))
theorem not_clear {sg : List Nat} {ims : List (List Nat)} {im : List Nat} (h : im ∈ ims) (e : im = []) : ¬ Clear sg ims := fun c => c.1 im h e
theorem heads_ne {l s : List Nat} (h : l.head? ≠ s.head?) : l ≠ s := fun e => h (by rw [e])
section
variable {P : Program} {w : World} {K : PySem.W.Frag} {mg : Str → Option Value} {base : Heap}
abbrev s_clash : Stmt := top 16
abbrev n_clash : List Str := ["change", "sign", "image"]
theorem sc_clash : FnScope n_clash ["change"] (fnScope s_clash) := fnScope_by (by decide +kernel)
def spClash (K : PySem.W.Frag) (C : Addr) : Sp := fun vs H Q _ => ∃ (a : Addr) (sg : List Nat) (ims : List (List Nat)), vs = [.ref a] ∧ Chg K C H a sg ims ∧ Gd sg ims ∧
  (Clear sg ims → ∀ H', Same H H' → Q .non H') ∧
  (¬ Clear sg ims → ∀ (t : Addr) (u v : List Nat) (H' : Hp), Same H H' → H' t = some (.tup [.str (S u), .str (S v)]) → Ov sg u → Ov sg v → u.length ≤ 20 → v.length ≤ 20 → u ≠ v → app sg ims u = app sg ims v → Q (.ref t) H')
theorem ok_clash {C : Addr} (T : BT mg) (CH : CC K C) (c_ways : Cal P w K mg base 2 "_ways_to_rests" (spWays K C) []) {f : Addr} {fd : FuncData} (F : Def K mg "clash" s_clash f fd) (b : Binds K fd ["change"] []) : Cal P w K mg base 3 "clash" (spClash K C) [] := by
  refine cal0 F b .nil sc_clash (fun vs H Q E h => ?_) (fun cdv A outer s H vs Q E hr h => ?_)
  · obtain ⟨a, sg, ims, rfl, _⟩ := h; rfl
  · obtain ⟨a, sg, ims, rfl, hc, g, k0, k1⟩ := h
    obtain ⟨dx, r, ha, hrr⟩ := id hc
    refine ⟨_, (pss_cons (ps_for PassesOwn.never rfl (pi_zipX (by rfl) T.m_zip (pa_cons (fldK K (pv 0) rfl) (pa_cons (fldK K (pv 0) rfl) pa_nil))) (tupK K 2 (pgs_cons (pg_name (i := 1) sc_clash.nd rfl (.inl rfl)) (pgs_cons (pg_name (i := 2) sc_clash.nd rfl (.inl rfl)) pgs_nil))) 
        (pss_one (ps_if (pt_cmpR op_eq (pv 2) pe_str (nomark _)) 
          (pss_one (ps_ret (pe_tup (pa_cons pe_str (pa_cons (pv 1) pa_nil))))
          )
         pss_nil)
        ))
      (pss_one (ps_ret (pe_dget1 (hu_of hr) (pe_c c_ways hr (by first | decide | omega) (by rfl) (pa_cons (pv 0) pa_nil)) pe_str ⟨by rfl, by rfl, by rfl, by rfl⟩))
      )), ?_⟩
    refine ⟨_, rfl, a, C, dx, _, _, rfl, ha, CH.cl, CH.nS, chF_signs _ _, ?_⟩
    refine ⟨_, rfl, a, C, dx, _, _, rfl, ha, CH.cl, CH.nR, chF_rows _ _, ?_⟩
    refine ⟨_, _, .txt (S sg), .tup r, rfl, rfl, rfl, trivial, ⟨_, hrr⟩, ?_⟩
    refine for_it (walk_zipX (K := K) (S1 := .txt (S sg)) (S2 := .tup r) (xs := sg.map fun c => V.str (S [c])) (ys := txs ims)) (fun i σ H' => (∃ (s1 s2 : Option V), σ = [some (.ref a), s1, s2]) ∧ Same H H' ∧ ∀ j im, j < i → ims[j]? = some im → im ≠ [])
      ⟨⟨_, _, rfl⟩, Same.refl H, fun j im h => absurd h (Nat.not_lt_zero j)⟩ (fun _ _ _ _ ⟨_, s1, _⟩ => ⟨rfl, sm_seqT s1 hrr⟩) ?_ ?_
    · rintro i x σ H1 H1' hi ⟨⟨z1, z2, rfl⟩, s1, hne⟩ ⟨t, x1, x2, rfl, ht, rfl, e1, e2⟩
      obtain ⟨c, hc1, rfl⟩ := chr_get e1
      obtain ⟨im, him, rfl⟩ := txs_get e2
      have sT : Same H1 (upd H1 t (.tup [.str (S [c]), .str (S im)])) := sm_new ht
      have htt : (upd H1 t (.tup [.str (S [c]), .str (S im)])) t = some (.tup [.str (S [c]), .str (S im)]) := upd_same
      have sHT := s1.trans sT
      generalize upd H1 t (.tup [.str (S [c]), .str (S im)]) = H2 at sT htt sHT ⊢
      refine ⟨t, _, rfl, .inl (.inl htt), rfl, _, _, rfl, _, _, rfl, rfl, ?_⟩
      refine ⟨_, rfl, rfl, _, rfl, ?_⟩
      rw [s_nil]
      by_cases h0 : im = []
      · subst h0
        refine iteB (decide_eq_true rfl) ?_
        have hcs := List.mem_of_getElem? hc1
        refine ⟨_, rfl, by show 2 ≤ sizeLine; decide, fun u hu => ?_⟩
        refine k1 (not_clear (List.mem_of_getElem? him) rfl) u [] [c] _ (sHT.trans (sm_new hu)) upd_same (fun _ h => nomatch h) (fun d hd => by rw [List.mem_singleton.mp hd]; exact hcs) (by decide) (by show 1 ≤ 20; decide) (by simp) ?_
        have e := g.good.img_at hc1
        rw [him] at e
        show [] = app sg ims [c]
        rw [← app_eq, app_one, ← Option.some.inj e]
      · refine iteN (decide_eq_false fun e => h0 (S_iff.mp e)) ?_
        refine ⟨⟨_, _, rfl⟩, sHT, fun j jm hj hjm => ?_⟩
        by_cases q : j = i
        · subst q; rw [him] at hjm; rw [← Option.some.inj hjm]; exact h0
        · exact hne j jm (by omega) hjm
    · rintro σ H1 ⟨⟨z1, z2, rfl⟩, s1, hne⟩
      rw [g.zl] at hne
      have hf : Full ims := fun im hm => by
        obtain ⟨j, hj⟩ := List.getElem?_of_mem hm
        refine hne j im ?_ hj
        have := (List.getElem?_eq_some_iff.mp hj).1
        have := g.im.1
        rw [List.length_zip]; omega
      refine ⟨_, rfl, a, sg, ims, rfl, hc.same s1, g, hf, fun d W us H2 s2 hdn hd2 hu2 nd few ge all => ?_⟩
      refine ⟨d, rfl, .inl ⟨_, .inl hd2⟩, valV (wK W us) (Sum.inr (S [])), .inl ⟨_, Sum.inr (S []), .inl hd2, by rw [s_nil]; rfl, rfl⟩, ?_⟩
      by_cases hin : ([] : List Nat) ∈ W.map (·.1)
      · obtain ⟨⟨r0, l, sh⟩, he, e0⟩ := List.mem_map.mp hin
        obtain rfl : r0 = [] := e0
        obtain ⟨i, hi⟩ := List.getElem?_of_mem he
        obtain ⟨u, hui⟩ : ∃ u, us[i]? = some u := ⟨_, List.getElem?_eq_getElem (by rw [hu2.len]; exact (List.getElem?_eq_some_iff.mp hi).1)⟩
        have hu := hu2.get i u _ hui hi
        have gE := ge _ he
        rw [show valV (wK W us) (Sum.inr (S [])) = some (.ref u) from wK_some nd hi hui]
        have eq := gE.eq
        have ll := gE.ll
        have ls := gE.ls
        have hh := gE.hd
        dsimp only at eq ll ls hh
        refine k1 (fun cl => cl.2 ((all []).mp hin)) u l sh H2 (s1.trans s2) hu gE.ol gE.os (by omega) (by omega) (heads_ne hh) ?_
        rw [app_eq, List.append_nil] at eq
        exact eq
      · rw [wK_none hin]
        exact k0 ⟨hf, fun h => hin ((all []).mpr h)⟩ H2 (s1.trans s2)
abbrev s_clear : Stmt := top 14
abbrev n_clear : List Str := ["change"]
theorem sc_clear : FnScope n_clear ["change"] (fnScope s_clear) := fnScope_by (by decide +kernel)
def spClear (K : PySem.W.Frag) (C : Addr) : Sp := fun vs H Q _ => ∃ (a : Addr) (sg : List Nat) (ims : List (List Nat)), vs = [.ref a] ∧ Chg K C H a sg ims ∧ Gd sg ims ∧
  ∀ (b : Bool) (H' : Hp), Same H H' → (b = true ↔ Clear sg ims) → Q (.bl b) H'
theorem ok_clear {C : Addr} (T : BT mg) (c_clash : Cal P w K mg base 3 "clash" (spClash K C) []) {f : Addr} {fd : FuncData} (F : Def K mg "is_clear" s_clear f fd) (b : Binds K fd ["change"] []) : Cal P w K mg base 4 "is_clear" (spClear K C) [] := by
  refine cal0 F b .nil sc_clear (fun vs H Q E h => ?_) (fun cdv A outer s H vs Q E hr h => ?_)
  · obtain ⟨a, sg, ims, rfl, _⟩ := h; rfl
  · obtain ⟨a, sg, ims, rfl, hc, g, k⟩ := h
    refine ⟨_, (pss_one (ps_ret (pe_cmpR op_isN (pe_c c_clash hr (by first | decide | omega) (by rfl) (pa_cons (pv 0) pa_nil)) pe_non (nomark _)))
      ), ?_⟩
    refine ⟨_, rfl, a, sg, ims, rfl, hc, g, fun cl H' s1 => ⟨rfl, ?_⟩, fun cl t u v H' s1 ht _ _ _ _ _ _ => ⟨rfl, ?_⟩⟩
    · exact k true H' s1 ⟨fun _ => cl, fun _ => rfl⟩
    · exact k false H' s1 ⟨(fun h => nomatch h), fun h => absurd h cl⟩
end
end Toy
namespace K4
def lvl (sg : Tx) : Nat → List Tx
  | 0 => [[]]
  | n + 1 => (lvl sg n).flatMap fun r => sg.map fun c => r ++ [c]
def upt (sg : Tx) : Nat → List Tx
  | 0 => [[]]
  | n + 1 => upt sg n ++ lvl sg (n + 1)
theorem lvl_mem {sg : Tx} : ∀ {n : Nat} {r : Tx}, r ∈ lvl sg n → r.length = n ∧ ∀ c ∈ r, c ∈ sg
  | 0, r, h => by
    obtain rfl := List.mem_singleton.mp h
    exact ⟨rfl, (fun _ h => nomatch h)⟩
  | n + 1, r, h => by
    obtain ⟨q, hq, h⟩ := List.mem_flatMap.mp h
    obtain ⟨c, hc, rfl⟩ := List.mem_map.mp h
    obtain ⟨h1, h2⟩ := lvl_mem hq
    refine ⟨by rw [List.length_append, h1]; rfl, fun d hd => ?_⟩
    rcases List.mem_append.mp hd with q | q
    · exact h2 d q
    · rw [List.mem_singleton.mp q]; exact hc
theorem lvl_nodup {sg : Tx} (nd : sg.Nodup) : ∀ n : Nat, (lvl sg n).Nodup
  | 0 => by simp [lvl]
  | n + 1 => by
    unfold lvl List.Nodup
    rw [List.pairwise_flatMap]
    refine ⟨fun r _ => List.Pairwise.map _ (fun a b hne e => hne ?_) nd, (lvl_nodup nd n).imp ?_⟩
    · intro a b hne x hx y hy e
      obtain ⟨c, _, rfl⟩ := List.mem_map.mp hx
      obtain ⟨d, _, rfl⟩ := List.mem_map.mp hy
      have := List.append_inj' e rfl
      exact hne this.1
    · have := List.append_cancel_left (show r ++ [a] = r ++ [b] from e)
      simpa using this
theorem lvl_len {sg : Tx} (h3 : sg.length ≤ 3) : ∀ n : Nat, (lvl sg n).length ≤ 3 ^ n
  | 0 => Nat.le_refl _
  | n + 1 => by
    have ih := lvl_len h3 n
    have : (lvl sg (n + 1)).length ≤ (lvl sg n).length * 3 := flat_len fun r _ => by rw [List.length_map]; exact h3
    rw [Nat.pow_succ]
    omega
theorem upt_mem {sg : Tx} : ∀ {n : Nat} {r : Tx}, r ∈ upt sg n → r.length ≤ n ∧ ∀ c ∈ r, c ∈ sg
  | 0, r, h => by
    obtain rfl := List.mem_singleton.mp h
    exact ⟨Nat.le_refl _, (fun _ h => nomatch h)⟩
  | n + 1, r, h => by
    rcases List.mem_append.mp h with h | h
    · have := upt_mem h; exact ⟨by omega, this.2⟩
    · have := lvl_mem h; exact ⟨by omega, this.2⟩
theorem upt_nodup {sg : Tx} (nd : sg.Nodup) : ∀ n : Nat, (upt sg n).Nodup
  | 0 => by simp [upt]
  | n + 1 => by
    show (upt sg n ++ lvl sg (n + 1)).Nodup
    rw [List.nodup_append]
    refine ⟨upt_nodup nd n, lvl_nodup nd (n + 1), fun a ha b hb e => ?_⟩
    have h1 := (upt_mem ha).1
    have h2 := (lvl_mem hb).1
    rw [e] at h1
    omega
theorem upt_len {sg : Tx} (h3 : sg.length ≤ 3) {n : Nat} (h : n ≤ 4) : (upt sg n).length ≤ 121 := by
  have key : ∀ n : Nat, (upt sg n).length * 2 + 1 ≤ 3 ^ (n + 1) := by
    intro n
    induction n with
    | zero => show 1 * 2 + 1 ≤ 3 ^ 1; decide
    | succ n ih =>
      have h1 := lvl_len h3 (n + 1)
      show (upt sg n ++ lvl sg (n + 1)).length * 2 + 1 ≤ _
      rw [List.length_append, Nat.pow_succ]
      omega
  have h1 := key n
  have : 3 ^ (n + 1) ≤ 3 ^ 5 := Nat.pow_le_pow_right (by decide) (by omega)
  have e : 3 ^ 5 = 243 := by decide
  omega
end K4
set_option maxHeartbeats 2000000
namespace Toy
open PySem L2 C8 SX LX K4
local macro_rules | `(tactic| walk_at "c") => `(tactic| refine And.intro (by first | (show (0 : Int) < _; omega) | exact Or.inr ⟨by decide, by decide⟩ | exact Or.inl ⟨by decide, by decide⟩ | (exact ⟨by omega, by omega⟩)) ?_)
local macro_rules | `(tactic| walk_at "s1") => `(tactic| first | refine ⟨_, rfl, ?_⟩ | refine ⟨_, _, rfl, rfl, ?_⟩ | refine .inl ⟨_, rfl, ?_⟩ | walk_at "c")
local macro_rules | `(tactic| walk_at "ix") => `(tactic| refine ⟨_, _, _, _, rfl, rfl, SqL.of (by first | assumption | exact upd_same), rfl, ?_⟩)
local macro_rules | `(tactic| walk_at "s") => `(tactic| repeat (walk_at "s1"))
theorem mergeK_skip : ∀ {more acc : List (Key × V)} {k : Key}, (∀ q ∈ more, q.1 ≠ k) → valV (mergeK acc more) k = valV acc k
  | [], _, _, _ => rfl
  | p :: more, acc, k, h => by
    show valV (mergeK (putK acc p.1 p.2) more) k = _
    rw [mergeK_skip fun q hq => h q (List.mem_cons_of_mem _ hq), valV_put, if_neg fun e => h p List.mem_cons_self e.symm]
theorem mergeK_val : ∀ {more acc : List (Key × V)} {k : Key}, (∃ v, (k, v) ∈ more) → ∃ v, valV (mergeK acc more) k = some v ∧ (k, v) ∈ more
  | [], _, _, ⟨_, h⟩ => nomatch h
  | p :: more, acc, k, ⟨v, h⟩ => by
    show ∃ v, valV (mergeK (putK acc p.1 p.2) more) k = some v ∧ _
    by_cases q : ∃ v, (k, v) ∈ more
    · obtain ⟨v, h1, h2⟩ := mergeK_val q
      exact ⟨v, h1, List.mem_cons_of_mem _ h2⟩
    · rcases List.mem_cons.mp h with e | e
      · subst e
        refine ⟨v, ?_, List.mem_cons_self⟩
        rw [mergeK_skip fun x hx e => q ⟨x.2, by rw [← e]; exact hx⟩, valV_put, if_pos rfl]
      · exact absurd ⟨v, e⟩ q
section
variable {P : Program} {w : World} {K : PySem.W.Frag} {mg : Str → Option Value} {base : Heap}
abbrev s_rows : Stmt := top 29
abbrev n_rows : List Str := ["signs", "most", "found", "last", "length", "fresh", "row", "sign"]
theorem sc_rows : FnScope n_rows ["signs", "most"] (fnScope s_rows) := fnScope_by (by decide +kernel)
def spRows : Sp := fun vs H Q _ => ∃ (sg : List Nat), vs = [.str (S sg), .int 4] ∧ Menu sg ∧ ∀ (p : Addr) (H' : Hp), Same H H' → H p = none → H' p = some (.lst (txs (upt sg 4))) → Q (.ref p) H'
theorem ok_rows (T : BT mg) {f : Addr} {fd : FuncData} (F : Def K mg "_law_rows" s_rows f fd) (b : Binds K fd ["signs", "most"] []) : Cal P w K mg base 1 "_law_rows" spRows [] := by
  refine cal0 F b .nil sc_rows (fun vs H Q E h => ?_) (fun cdv A outer s H vs Q E hr h => ?_)
  · obtain ⟨sg, rfl, _⟩ := h; rfl
  · obtain ⟨sg, rfl, hm, k⟩ := h
    have h3 := (menu_len hm).2
    refine ⟨_, (pss_cons (ps_par (i := 2) (j := 3) rfl sc_rows.nd rfl rfl (by decide) rfl rfl (pa_cons (pe_lst (pa_cons pe_str pa_nil)) (pa_cons (pe_lst (pa_cons pe_str pa_nil)) pa_nil)) rfl)
      (pss_cons (ps_for PassesOwn.never rfl (pi_range1 (by rfl) T.m_range (pa_cons (pv 1) pa_nil)) (pg_name (i := 4) sc_rows.nd rfl (.inl rfl)) 
        (pss_cons (ps_set (i := 5) sc_rows.nd rfl (.inl rfl) (pe_lst pa_nil))
        (pss_cons (ps_for PassesOwn.never rfl (pi_list (pv 3)) (pg_name (i := 6) sc_rows.nd rfl (.inr rfl)) 
          (pss_one (ps_expr (pe_bm PySem.F.plainAttrs_list PySem.F.slot_list_extend PySem.F.type_list_extend mt_extend (pv 5) (pa_cons (pe_lc (own := [("sign", 7)]) rfl sc_rows.nd (pi_str (pv 0)) (blkOk_by (N := n_rows) (sc := fnScope s_rows) (by decide +kernel)) (fun _ _ _ _ _ => (pg_name (i := 7) sc_rows.nd rfl (.inl rfl))) (fun _ _ _ _ _ => pts_nil) (fun _ _ _ _ _ => (pe_op op_add_str (pv 6) (pv 7)))) pa_nil)))
          ))
        (pss_cons (ps_set (i := 3) sc_rows.nd rfl (.inl rfl) (pv 5))
        (pss_one (ps_set (i := 2) sc_rows.nd rfl (.inl rfl) (pe_op op_cat (pv 2) (pv 5)))
        )))))
      (pss_one (ps_ret (pv 2))
      ))), ?_⟩
    rw [s_nil]
    refine ⟨by show 1 ≤ sizeLine; decide, fun p hp => ⟨by show 1 ≤ sizeLine; decide, fun q hq => ?_⟩⟩
    have npq : p ≠ q := fun e => by rw [← e, upd_same] at hq; cases hq
    have hq0 : H q = none := by rw [upd_ne npq.symm] at hq; exact hq
    have s0 : Same H (upd (upd H p (.lst [.str (S [])])) q (.lst [.str (S [])])) := sm_put (sm_put (Same.refl H) hp) hq0
    refine ⟨_, _, rfl, ?_⟩
    refine ⟨_, rfl, 4, rfl, by decide, by decide, ?_⟩
    refine for_it (walk_range (lo := 0) (n := 4)) (fun i σ H' => ∃ (p q : Addr) (s4 s5 s6 s7 : Option V), σ = [some (.str (S sg)), some (.int 4), some (.ref p), some (.ref q), s4, s5, s6, s7] ∧ i ≤ 4 ∧ Same H H' ∧ H p = none ∧
        H' p = some (.lst (txs (upt sg i))) ∧ H' q = some (.lst (txs (lvl sg i))))
      ⟨p, q, _, _, _, _, rfl, by omega, s0, hp, by rw [upd_ne npq, upd_same]; rfl, upd_same⟩ (fun _ _ _ _ _ => trivial) ?_ ?_
    · clear hp hq npq hq0 s0 p q
      rintro i x σ H1 H1' hi ⟨p, q, s4, s5, s6, s7, rfl, hi4, s1, hpn, hp1, hq1⟩ ⟨rfl, rfl⟩
      refine ⟨by show 0 ≤ sizeLine; decide, fun f hf => ?_⟩
      have hiN : i < 4 := by omega
      have npf : p ≠ f := ne_of_none hp1 hf
      have nqf : q ≠ f := ne_of_none hq1 hf
      have hfn : H f = none := s1.free hf
      have l3 := lvl_len h3 i
      have e81 : 3 ^ i ≤ 81 := Nat.le_trans (Nat.pow_le_pow_right (by decide) (show i ≤ 4 by omega)) (by decide)
      refine ⟨_, rfl, q, rfl, ⟨_, SqL.of (by rw [upd_ne nqf]; exact hq1)⟩, ?_⟩
      refine for_it (walk_list (K := K) (a := q) (xs := txs (lvl sg i))) (fun j σ H' => ∃ (s6 s7 : Option V), σ = [some (.str (S sg)), some (.int 4), some (.ref p), some (.ref q), some (.int (0 + (i : Int))), some (.ref f), s6, s7] ∧ Same H H' ∧
          H' p = some (.lst (txs (upt sg i))) ∧ H' q = some (.lst (txs (lvl sg i))) ∧ H' f = some (.lst (txs (((lvl sg i).take j).flatMap fun r => sg.map fun c => r ++ [c]))))
        ⟨_, _, rfl, sm_put s1 hfn, by rw [upd_ne npf]; exact hp1, by rw [upd_ne nqf]; exact hq1, by rw [upd_same]; rfl⟩ (fun _ _ _ _ ⟨_, _, _, _, _, e, _⟩ => SqL.of e) ?_ ?_
      · rintro j x σ H2 H2' hj ⟨s6, s7, rfl, s2, hp2, hq2, hf2⟩ ⟨rfl, e1⟩
        obtain ⟨r, hr1, rfl⟩ := txs_get e1
        have hrl := lvl_mem (List.mem_of_getElem? hr1)
        have hjl := (List.getElem?_eq_some_iff.mp hr1).1
        refine ⟨_, rfl, .inl ⟨rfl, _, SqL.of hf2⟩, ?_⟩
        refine ⟨_, rfl, _, rfl, fun D hD => ?_⟩
        refine lc_keep keep_same walk_str hD (by show sg.length < sizeLine; exact small1000 (by omega)) (fun m y => ∀ c, sg[m]? = some c → y = .str (S (r ++ [c]))) (fun _ _ => trivial) (fun m x H3 H4 R hm1 r1 hy hR => ?_) (fun ys H3 hly hg r1 hDs => ?_)
        · obtain ⟨rfl, c, hc, rfl⟩ := hy
          have hc' : sg[m]? = some c := by simpa [S] using hc
          refine ⟨rfl, _, rfl, _, rfl, _, _, rfl, rfl, by rw [S_len]; exact sz (m := 10) (by rw [show (⟨#[c]⟩ : Str).length = 1 from rfl]; omega) (by decide), ?_⟩
          refine hR _ _ (Same.refl _) fun d hd => ?_
          rw [hc'] at hd
          obtain rfl := Option.some.inj hd
          exact congrArg V.str (S_cat r [c])
        · have ey : ys = txs (sg.map fun c => r ++ [c]) := by
            unfold txs; rw [List.map_map]
            exact list_map (by rw [hly]; simp [S]) fun m y c e1 e2 => hg m y e1 c e2
          subst ey
          have nfD : f ≠ D := ne_of_none hf2 hD
          have hf3 := r1 _ _ hf2
          refine ⟨f, D, _, _, rfl, rfl, hf3, hDs, ?_, ?_⟩
          · rw [txs_len, txs_len, List.length_map]
            have : (((lvl sg i).take j).flatMap fun r => sg.map fun c => r ++ [c]).length ≤ ((lvl sg i).take j).length * 3 := flat_len fun r _ => by rw [List.length_map]; exact h3
            rw [List.length_take] at this
            exact Nat.le_of_lt (small1000 (Nat.le_trans (Nat.add_le_add this h3) (by omega)))
          · refine ⟨_, _, rfl, sm_put (s2.trans r1) hfn, by rw [upd_ne npf]; exact r1 _ _ hp2, by rw [upd_ne nqf]; exact r1 _ _ hq2, ?_⟩
            rw [upd_same, flat_more hr1]
            unfold txs
            rw [List.map_append]
      · rintro σ H2 ⟨s6, s7, rfl, s2, hp2, hq2, hf2⟩
        rw [txs_len, take_all (Nat.le_refl _)] at hf2
        have ul := upt_len h3 (n := i) (by omega)
        have l4 : (lvl sg (i + 1)).length ≤ 243 := Nat.le_trans (lvl_len h3 (i + 1)) (by rw [Nat.pow_succ]; omega)
        refine ⟨_, rfl, _, rfl, _, rfl, ?_⟩
        refine ⟨p, f, _, _, rfl, rfl, hp2, hf2, by rw [txs_len, txs_len]; exact Nat.le_of_lt (small1000 (show (upt sg i).length + (lvl sg (i + 1)).length ≤ 1000 by omega)), fun g hg => ?_⟩
        refine ⟨g, f, _, _, _, _, rfl, by omega, s2.trans (sm_new hg), s2.free hg, ?_, ?_⟩
        · rw [upd_same]; unfold txs; rw [← List.map_append]; rfl
        · rw [upd_ne (ne_of_none hf2 hg)]; exact hf2
    · rintro σ H1 ⟨p, q, s4, s5, s6, s7, rfl, hi4, s1, hpn, hp1, hq1⟩
      exact ⟨_, rfl, k p H1 s1 hpn hp1⟩
end
end Toy
set_option maxHeartbeats 2000000
namespace Toy
open PySem L2 C8 SX LX K4
local macro_rules | `(tactic| walk_at "c") => `(tactic| refine And.intro (by first | (show (0 : Int) < _; omega) | exact Or.inr ⟨by decide, by decide⟩ | exact Or.inl ⟨by decide, by decide⟩ | (exact ⟨by omega, by omega⟩)) ?_)
local macro_rules | `(tactic| walk_at "s1") => `(tactic| first | refine ⟨_, rfl, ?_⟩ | refine ⟨_, _, rfl, rfl, ?_⟩ | refine .inl ⟨_, rfl, ?_⟩ | walk_at "c")
local macro_rules | `(tactic| walk_at "ix") => `(tactic| refine ⟨_, _, _, _, rfl, rfl, SqL.of (by first | assumption | exact upd_same), rfl, ?_⟩)
local macro_rules | `(tactic| walk_at "s") => `(tactic| repeat (walk_at "s1"))
theorem taken_map {α : Type} (xs : List α) (d : α) (pr : α → Bool) : (takenN (fun i => pr (xs.getD i d)) xs.length).map (fun i => xs.getD i d) = xs.filter pr := by
  unfold takenN
  have e : (List.range xs.length).map (fun i => xs.getD i d) = xs := by
    apply List.ext_getElem
    · rw [List.length_map, List.length_range]
    · intro i h1 h2
      rw [List.getElem_map, List.getElem_range, List.getD_eq_getElem?_getD, List.getElem?_eq_getElem h2]
      rfl
  have h := List.filter_map (f := fun i => xs.getD i d) (p := pr) (l := List.range xs.length)
  rw [e] at h
  rw [h]
  rfl
theorem taken_txs {xs : List (List Nat)} {pr : List Nat → Bool} {ys : List V} (hl : ys.length = (takenN (fun i => pr (xs.getD i [])) (txs xs).length).length) (h : ∀ (j k : Nat) y, (takenN (fun i => pr (xs.getD i [])) (txs xs).length)[j]? = some k → ys[j]? = some y → y = .str (S (xs.getD k []))) : ys = txs (xs.filter pr) := by
  rw [txs_len] at hl h
  have e : txs (xs.filter pr) = (takenN (fun i => pr (xs.getD i [])) xs.length).map fun k => V.str (S (xs.getD k [])) := by
    rw [← taken_map xs [] pr]; unfold txs; rw [List.map_map]; rfl
  rw [e]
  exact list_map hl fun j y k e1 e2 => h j k y e2 e1
theorem lineS {n : Nat} (h : n < 16777216) : n < sizeLine := h
theorem Turn.nonS {sg : List Nat} {ims found : List (List Nat)} {t : Nat} (g : Good sg ims) (hf : Full ims) (h : Turn sg ims found t) : found.length ≤ 3145728 ∧ (nonE found).length ≤ 1572864 := by
  rcases h.le g hf with q | q
  · subst q; exact ⟨Nat.zero_le _, Nat.zero_le _⟩
  · have i1 := h.few
    have i2 := h.fewE
    have : 4 ^ t ≤ 4 ^ 9 := Nat.pow_le_pow_right (by decide) q
    have e : 4 ^ 9 = 262144 := by decide
    omega
theorem part_len {ims : List (List Nat)} (h3 : ims.length ≤ 3) (l : List (List Nat)) (j : Nat) : ((l.take j).flatMap (nextL ims)).length ≤ l.length * 6 := by
  have : ((l.take j).flatMap (nextL ims)).length ≤ (l.take j).length * 6 := flat_len fun r _ => next_len h3 r
  rw [List.length_take] at this
  have : min j l.length ≤ l.length := Nat.min_le_right _ _
  have := Nat.mul_le_mul_right 6 this
  omega
theorem part2_len {ims : List (List Nat)} (h3 : ims.length ≤ 3) (r : List Nat) (j : Nat) : ((ims.take j).flatMap fun im => beh im r ++ beh r im).length ≤ 6 := by
  have : ((ims.take j).flatMap fun im => beh im r ++ beh r im).length ≤ (ims.take j).length * 2 := flat_len fun im _ => by
    rw [List.length_append]; have := beh_len im r; have := beh_len r im; omega
  rw [List.length_take] at this
  have : min j ims.length ≤ 3 := by omega
  omega
theorem cutl_from (ys : List (List Nat)) (k : Nat) : cutV (txs ys) (some (k : Int)) none = txs (ys.drop k) := by
  unfold cutV
  rw [HT.sIx_none, HT.sIx_nat, txs_len]
  unfold txs
  rw [← List.map_drop, ← List.map_take]
  congr 1
  rcases Nat.le_total k ys.length with h | h
  · rw [Nat.min_eq_left h, List.take_of_length_le (by rw [List.length_drop]; exact Nat.le_refl _)]
  · rw [Nat.min_eq_right h, List.drop_of_length_le (Nat.le_refl _), List.drop_of_length_le h, List.take_nil]
theorem gen_few {ims : List (List Nat)} (h3 : ims.length ≤ 3) {i : Nat} (hi : i < ims.length) (j : Nat) : (((List.range i).flatMap fun i => (ims.take i ++ ims.drop (i + 1)).flatMap fun o => beh (ims.getD i []) o) ++ ((ims.take i ++ ims.drop (i + 1)).take j).flatMap fun o => beh (ims.getD i []) o).length ≤ 12 := by
  have h1 : ∀ x ∈ List.range i, ((ims.take x ++ ims.drop (x + 1)).flatMap fun o => beh (ims.getD x []) o).length ≤ 3 := fun x _ => by
    have := flat_len (l := ims.take x ++ ims.drop (x + 1)) (f := fun o => beh (ims.getD x []) o) (c := 1) fun o _ => beh_len _ _
    rw [List.length_append, List.length_take, List.length_drop] at this
    omega
  have h2 := flat_len (l := List.range i) (f := fun i => (ims.take i ++ ims.drop (i + 1)).flatMap fun o => beh (ims.getD i []) o) (c := 3) h1
  rw [List.length_range] at h2
  have h4 := flat_len (l := (ims.take i ++ ims.drop (i + 1)).take j) (f := fun o => beh (ims.getD i []) o) (c := 1) fun o _ => beh_len _ _
  rw [List.length_take, List.length_append, List.length_take, List.length_drop] at h4
  rw [List.length_append]
  omega
theorem range_more {β : Type} {f : Nat → List β} {i : Nat} : (List.range (i + 1)).flatMap f = (List.range i).flatMap f ++ f i := by
  rw [List.range_succ, List.flatMap_append]
  show _ ++ (f i ++ []) = _
  rw [List.append_nil]
theorem Turn.fr {sg : List Nat} {ims found : List (List Nat)} {t : Nat} (g : Good sg ims) (h : Turn sg ims found t) {x : List Nat} (hx : x ∈ freshU ims found) : Rest sg ims x := by
  obtain ⟨r, hr, q⟩ := List.mem_flatMap.mp hx
  obtain ⟨hr1, hr2⟩ := mem_nonE.mp hr
  obtain ⟨c, hc, e⟩ := (mem_nextL g).mp q
  exact .step (h.rst r hr1) hr2 hc e
theorem rest_small {sg : List Nat} {ims : List (List Nat)} (g : Gd sg ims) (hf : Full ims) {x : List Nat} (h : Rest sg ims x) : ∀ c ∈ x, c < 1114112 := fun c hc => by
  obtain ⟨im, h1, q, h2, h3⟩ := rest_suf g.good.hl hf h
  have ho := (g.im.2 im h1).1 c (by rw [h3]; exact List.mem_append_right _ hc)
  have := menu_small g.mn c ho
  omega
theorem rest_len {sg : List Nat} {ims : List (List Nat)} (g : Gd sg ims) (hf : Full ims) {x : List Nat} (h : Rest sg ims x) : x.length ≤ 4 := by
  obtain ⟨im, h1, q, h2, h3⟩ := rest_suf g.good.hl hf h
  have := (g.im.2 im h1).2
  rw [h3, List.length_append] at this
  omega
theorem sm_free {H : Hp} {e q : Addr} {o : HO} (hq : (upd H e o) q = none) (he : H e = none) : H q = none := by
  by_cases h : q = e
  · rw [h]; exact he
  · rw [upd_ne h] at hq; exact hq
theorem txs_app (xs ys : List (List Nat)) : txs xs ++ txs ys = txs (xs ++ ys) := by unfold txs; rw [List.map_append]
theorem sixS {im : List Nat} (h : im.length ≤ 4) : im.length ≤ 1000 := by omega
section
variable {P : Program} {w : World} {K : PySem.W.Frag} {mg : Str → Option Value} {base : Heap}
abbrev s_lrests : Stmt := top 32
abbrev n_lrests : List Str := ["images", "found", "at", "image", "other", "turn", "fresh", "rest", "one"]
theorem sc_lrests : FnScope n_lrests ["images"] (fnScope s_lrests) := fnScope_by (by decide +kernel)
def spLRests (K : PySem.W.Frag) : Sp := fun vs H Q _ => ∃ (a : Addr) (sg : List Nat) (ims : List (List Nat)), vs = [.ref a] ∧ H a = some (.lst (txs ims)) ∧ Gd sg ims ∧ Full ims ∧
  ∀ (p : Addr) (xs : List (List Nat)) (H' : Hp), Same H H' → H p = none → H' p = some (.lst (txs xs)) → xs.Pairwise (· < ·) → (∀ x, x ∈ xs ↔ Rest sg ims x) → Q (.ref p) H'
theorem ok_lrests (T : BT mg) (c_behind : Cal P w K mg base 1 "_law_behind" spBehind []) {f : Addr} {fd : FuncData} (F : Def K mg "_law_rests" s_lrests f fd) (b : Binds K fd ["images"] []) : Cal P w K mg base 2 "_law_rests" (spLRests K) [] := by
  refine cal0 F b .nil sc_lrests (fun vs H Q E h => ?_) (fun cdv A outer s H vs Q E hr h => ?_)
  · obtain ⟨a, sg, ims, rfl, _⟩ := h; rfl
  · obtain ⟨a, sg, ims, rfl, ha, g, hf, k⟩ := h
    have gg := g.good
    have h3 := gg.h3
    refine ⟨_, (pss_cons (ps_set (i := 1) sc_lrests.nd rfl (.inr rfl) (pe_lst pa_nil))
      (pss_cons (ps_for PassesOwn.never rfl (pi_enumX (by rfl) T.m_enumerate (pa_cons (pv 0) pa_nil)) (tupK K 2 (pgs_cons (pg_name (i := 2) sc_lrests.nd rfl (.inl rfl)) (pgs_cons (pg_name (i := 3) sc_lrests.nd rfl (.inl rfl)) pgs_nil))) 
        (pss_one (ps_for PassesOwn.never rfl (pi_list (pe_op op_cat (pe_slice sl_list (pv 0) po_none (po_some (pv 2))) (pe_slice sl_list (pv 0) (po_some (pe_op op_add (pv 2) pe_int)) po_none))) (pg_name (i := 4) sc_lrests.nd rfl (.inl rfl)) 
          (pss_one (ps_expr (pe_bm PySem.F.plainAttrs_list PySem.F.slot_list_extend PySem.F.type_list_extend mt_extend (pv 1) (pa_cons (pe_c c_behind hr (by first | decide | omega) (by rfl) (pa_cons (pv 3) (pa_cons (pv 4) pa_nil))) pa_nil)))
          ))
        ))
      (pss_cons (ps_for PassesOwn.never rfl (pi_range1 (by rfl) T.m_range (pa_cons pe_int pa_nil)) (pg_name (i := 5) sc_lrests.nd rfl (.inl rfl)) 
        (pss_cons (ps_set (i := 6) sc_lrests.nd rfl (.inl rfl) (pe_lst pa_nil))
        (pss_cons (ps_for PassesOwn.never rfl (pi_list (pe_lc (own := [("one", 8)]) rfl sc_lrests.nd (pi_list (pv 1)) (blkOk_by (N := n_lrests) (sc := fnScope s_lrests) (by decide +kernel)) (fun _ _ _ _ _ => (pg_name (i := 8) sc_lrests.nd rfl (.inl rfl))) (fun _ _ _ _ _ => pts_one (pt_cmpR op_ne (pv 8) pe_str (nomark _))) (fun _ _ _ _ _ => (pv 8)))) (pg_name (i := 7) sc_lrests.nd rfl (.inl rfl)) 
          (pss_one (ps_for PassesOwn.never rfl (pi_list (pv 0)) (pg_name (i := 3) sc_lrests.nd rfl (.inl rfl)) 
            (pss_one (ps_expr (pe_bm PySem.F.plainAttrs_list PySem.F.slot_list_extend PySem.F.type_list_extend mt_extend (pv 6) (pa_cons (pe_op op_cat (pe_c c_behind hr (by first | decide | omega) (by rfl) (pa_cons (pv 3) (pa_cons (pv 7) pa_nil))) (pe_c c_behind hr (by first | decide | omega) (by rfl) (pa_cons (pv 7) (pa_cons (pv 3) pa_nil)))) pa_nil)))
            ))
          ))
        (pss_cons (ps_setLc (i := 6) (own := [("rest", 7)]) rfl sc_lrests.nd rfl rfl rfl (pi_list (pv 6)) (blkOk_by (N := n_lrests) (sc := fnScope s_lrests) (by decide +kernel)) (fun _ _ _ _ _ => (pg_name (i := 7) sc_lrests.nd rfl (.inl rfl))) (fun _ _ _ _ _ => pts_one (pt_cmpR (notInK K) (pv 7) (pv 1) rfl)) (fun _ _ _ _ _ => (pv 7)))
        (pss_cons (ps_if (pt_cmpR (op_eqSs hr) (pv 6) (pe_lst pa_nil) (nomark _)) 
          (pss_one (ps_ret (pe_sortSetL rfl (by rfl) T.m_sorted (by rfl) T.m_set (pv 1)))
          )
         pss_nil)
        (pss_one (ps_set (i := 1) sc_lrests.nd rfl (.inr rfl) (pe_op op_cat (pv 1) (pv 6)))
        ))))))
      (pss_one (ps_ret (pe_sortSetL rfl (by rfl) T.m_sorted (by rfl) T.m_set (pv 1)))
      )))), ?_⟩
    refine ⟨by show 0 ≤ sizeLine; decide, fun p hp => ?_⟩
    refine ⟨_, rfl, .ref a, .lst a, rfl, rfl, ⟨_, SqL.of (sm_new (o := .lst []) hp _ _ ha)⟩, ?_⟩
    refine for_it (walk_enumX (K := K) (S := .lst a) (xs := txs ims)) (fun i σ H' => ∃ (p : Addr) (s2 s3 s4 s5 s6 s7 : Option V) (acc : List (List Nat)), σ = [some (.ref a), some (.ref p), s2, s3, s4, s5, s6, s7, none] ∧ Same H H' ∧ H p = none ∧
        H' p = some (.lst (txs acc)) ∧ acc = (List.range i).flatMap fun i => (ims.take i ++ ims.drop (i + 1)).flatMap fun o => beh (ims.getD i []) o)
      ⟨p, _, _, _, _, _, _, [], rfl, sm_new hp, hp, upd_same, rfl⟩ (fun _ _ _ _ ⟨_, _, _, _, _, _, _, _, _, s1, _⟩ => SqL.of (s1 _ _ ha)) ?_ ?_
    · rintro i x σ H1 H1' hi ⟨p, s2, s3, s4, s5, s6, s7, acc, rfl, s1, hpn, hp1, hacc⟩ ⟨T, x1, x2, rfl, hT, rfl, e1, e2⟩
      obtain rfl : V.int (i : Nat) = x1 := Option.some.inj e1
      obtain ⟨im, him, rfl⟩ := txs_get e2
      have sT : Same H1 (upd H1 T (.tup [.int (i : Nat), .str (S im)])) := sm_new hT
      have htt : (upd H1 T (.tup [.int (i : Nat), .str (S im)])) T = some (.tup [.int (i : Nat), .str (S im)]) := upd_same
      have sHT := s1.trans sT
      have hpT := sT _ _ hp1
      generalize upd H1 T (.tup [.int (i : Nat), .str (S im)]) = H2 at sT htt sHT hpT ⊢
      refine ⟨T, _, rfl, .inl (.inl htt), rfl, _, _, rfl, _, _, rfl, rfl, ?_⟩
      have haT := sHT _ _ ha
      rw [txs_len] at hi
      have hgi : ims.getD i [] = im := by rw [List.getD_eq_getElem?_getD, him]; rfl
      refine ⟨_, rfl, _, rfl, i, rfl, a, _, rfl, SqL.of haT, fun q1 hq1 => ?_⟩
      rw [cut_to]
      have w1 : Same H2 (upd H2 q1 (.lst (txs (ims.take i)))) := sm_new hq1
      refine ⟨_, rfl, _, rfl, _, _, rfl, rfl, ((i + 1 : Nat) : Int), rfl, a, _, rfl, SqL.of (w1 _ _ haT), fun q2 hq2 => ?_⟩
      rw [cutl_from]
      have w2 : Same (upd H2 q1 (.lst (txs (ims.take i)))) (upd (upd H2 q1 (.lst (txs (ims.take i)))) q2 (.lst (txs (ims.drop (i + 1))))) := sm_new hq2
      refine ⟨q1, q2, _, _, rfl, rfl, w2 _ _ upd_same, upd_same, by rw [txs_len, txs_len, List.length_take, List.length_drop]; exact Nat.le_of_lt (small1000 (by omega)), fun q3 hq3 => ?_⟩
      have w3 := (w1.trans w2).trans (sm_new (o := .lst (txs (ims.take i) ++ txs (ims.drop (i + 1)))) hq3)
      have eo : txs (ims.take i) ++ txs (ims.drop (i + 1)) = txs (ims.take i ++ ims.drop (i + 1)) := by unfold txs; rw [List.map_append]
      rw [eo] at w3 ⊢
      have hq33 : (upd (upd (upd H2 q1 (.lst (txs (ims.take i)))) q2 (.lst (txs (ims.drop (i + 1))))) q3 (.lst (txs (ims.take i ++ ims.drop (i + 1))))) q3 = some (.lst (txs (ims.take i ++ ims.drop (i + 1)))) := upd_same
      have hp3 := w3 _ _ hpT
      have s3' := sHT.trans w3
      have npq : p ≠ q3 := fun e => by rw [← e, w2 _ _ (w1 _ _ hpT)] at hq3; cases hq3
      generalize upd (upd (upd H2 q1 (.lst (txs (ims.take i)))) q2 (.lst (txs (ims.drop (i + 1))))) q3 (.lst (txs (ims.take i ++ ims.drop (i + 1)))) = H3 at w3 hq33 hp3 s3' ⊢
      refine ⟨q3, rfl, ⟨_, SqL.of hq33⟩, ?_⟩
      refine for_it (walk_list (K := K) (a := q3) (xs := txs (ims.take i ++ ims.drop (i + 1)))) (fun j σ H' => ∃ (s4 : Option V) (acc2 : List (List Nat)), σ = [some (.ref a), some (.ref p), some (.int (i : Nat)), some (.str (S im)), s4, s5, s6, s7, none] ∧ Same H H' ∧
          H' q3 = some (.lst (txs (ims.take i ++ ims.drop (i + 1)))) ∧ H' p = some (.lst (txs acc2)) ∧ acc2 = acc ++ ((ims.take i ++ ims.drop (i + 1)).take j).flatMap fun o => beh (ims.getD i []) o)
        ⟨_, acc, rfl, s3', hq33, hp3, by rw [List.take_zero, List.flatMap_nil, List.append_nil]⟩ (fun _ _ _ _ ⟨_, _, _, _, e, _⟩ => SqL.of e) ?_ ?_
      · rintro j x σ H4' H4 hj ⟨s4, acc2, rfl, s4', hq4, hp4, hacc2⟩ ⟨rfl, e1⟩
        obtain ⟨o, ho, rfl⟩ := txs_get e1
        have hol : o.length ≤ 4 := by
          rcases List.mem_append.mp (List.mem_of_getElem? ho) with h | h
          · exact (g.im.2 o (List.mem_of_mem_take h)).2
          · exact (g.im.2 o (List.mem_of_mem_drop h)).2
        refine ⟨_, rfl, .inl ⟨rfl, _, SqL.of hp4⟩, _, rfl, _, rfl, im, o, rfl, sixS (g.c1 him), sixS hol, fun u hu => ?_⟩
        have w5 : Same H4 (upd H4 u (.lst (txs (beh im o)))) := sm_new hu
        refine ⟨p, u, _, _, rfl, rfl, w5 _ _ hp4, upd_same, ?_, ?_⟩
        · rw [txs_len, txs_len, hacc2, hacc]
          have h1 := gen_few h3 hi j
          have h2 := beh_len im o
          exact Nat.le_of_lt (small1000 (Nat.le_trans (Nat.add_le_add h1 h2) (by decide)))
        · refine ⟨_, acc2 ++ beh im o, rfl, sm_put (s4'.trans w5) hpn, ?_, ?_, ?_⟩
          · rw [upd_ne npq.symm]; exact w5 _ _ hq4
          · rw [upd_same]; unfold txs; rw [List.map_append]
          · rw [flat_more ho, ← List.append_assoc, ← hacc2, hgi]
      · rintro σ H4 ⟨s4, acc2, rfl, s4', hq4, hp4, hacc2⟩
        rw [txs_len, take_all (Nat.le_refl _)] at hacc2
        refine ⟨p, _, _, _, _, _, _, acc2, rfl, s4', hpn, hp4, ?_⟩
        rw [hacc2, hacc, range_more]
    · rintro σ H1 ⟨p, s2, s3, s4, s5, s6, s7, acc, rfl, s1, hpn, hp1, hacc⟩
      rw [txs_len] at hacc
      have hg0 : acc = gen0 ims := hacc
      subst hg0
      refine ⟨40, rfl, by decide, by decide, ?_⟩
      refine for_it (walk_range (lo := 0) (n := 40)) (fun i σ H' => ∃ (p : Addr) (s2 s3 s4 s5 s6 s7 : Option V) (found : List (List Nat)), σ = [some (.ref a), some (.ref p), s2, s3, s4, s5, s6, s7, none] ∧ Same H H' ∧ H p = none ∧
          H' p = some (.lst (txs found)) ∧ Turn sg ims found i)
        ⟨p, _, _, _, _, _, _, _, rfl, s1, hpn, hp1, turn0 gg⟩ (fun _ _ _ _ _ => trivial) ?_ ?_
      · clear hp s1 hpn hp1 hacc p s2 s3 s4 s5 s6 s7
        rintro i x σ H2 H2' hi ⟨p, s2, s3, s4, s5, s6, s7, found, rfl, s1, hpn, hp1, hT⟩ ⟨rfl, rfl⟩
        obtain ⟨b1, b2⟩ := Turn.nonS gg hf hT
        refine ⟨by show 0 ≤ sizeLine; decide, fun f hfr => ?_⟩
        have npf : p ≠ f := ne_of_none hp1 hfr
        have hfn : H f = none := s1.free hfr
        have w1 := sm_new (o := .lst []) hfr
        refine ⟨_, rfl, p, rfl, ⟨_, SqL.of (w1 _ _ hp1)⟩, fun D hD => ?_⟩
        refine lc_keepF keep_same (walk_list (K := K) (a := p) (xs := txs found)) hD (by rw [txs_len]; exact lineS (by omega)) (fun i => (fun l => decide (l ≠ [])) (found.getD i [])) (fun i y _ => y = .str (S (found.getD i []))) (fun H r => SqL.of (r _ _ (w1 _ _ hp1))) (fun _ _ _ _ _ _ h => h) (fun _ _ _ _ _ _ _ h => h) (fun j x H3 H4 acc N R hj r hDa hy hR hN => ?_) (fun ys H3 hly hg r hDs => ?_)
        · obtain ⟨rfl, e1⟩ := hy
          obtain ⟨l, hl, rfl⟩ := txs_get e1
          have hgl : found.getD j [] = l := by rw [List.getD_eq_getElem?_getD, hl]; rfl
          rw [hgl] at hR hN
          refine ⟨rfl, _, rfl, rfl, _, rfl, ?_⟩
          rw [s_nil]
          by_cases h0 : l = []
          · refine iteN (by subst h0; simp) ?_
            exact hN (by simpa using h0) _ (Same.refl _)
          · refine iteB (by simp [S]; exact h0) ?_
            exact ⟨_, rfl, hR (by simpa using h0) _ _ (Same.refl _) rfl⟩
        · have ey : ys = txs (nonE found) := taken_txs hly hg
          subst ey
          have hf3 : H3 f = some (.lst []) := r _ _ upd_same
          have hp3 : H3 p = some (.lst (txs found)) := r _ _ (w1 _ _ hp1)
          have s3' := (s1.trans w1).trans r
          have nfD : f ≠ D := fun e => by rw [← e, upd_same] at hD; cases hD
          clear hly hg hD r w1 hp1 s1 hfr
          refine ⟨D, rfl, ⟨_, SqL.of hDs⟩, ?_⟩
          refine for_it (walk_list (K := K) (a := D) (xs := txs (nonE found))) (fun j σ H' => ∃ (s3 s7 : Option V) (fr : List (List Nat)), σ = [some (.ref a), some (.ref p), s2, s3, s4, some (.int (0 + (i : Int))), some (.ref f), s7, none] ∧ Same H H' ∧
              H' D = some (.lst (txs (nonE found))) ∧ H' p = some (.lst (txs found)) ∧ H' f = some (.lst (txs fr)) ∧ fr = ((nonE found).take j).flatMap (nextL ims))
            ⟨_, _, [], rfl, s3', hDs, hp3, hf3, rfl⟩ (fun _ _ _ _ ⟨_, _, _, _, _, e, _⟩ => SqL.of e) ?_ ?_
          · clear hf3 hp3 s3' hDs
            rintro j x σ H4' H4 hj ⟨s3, s7, fr, rfl, s4', hD4, hp4, hf4, hfr4⟩ ⟨rfl, e1⟩
            obtain ⟨rr, hrr, rfl⟩ := txs_get e1
            have hrR := hT.rst rr (mem_nonE.mp (List.mem_of_getElem? hrr)).1
            have hrl : rr.length ≤ 4 := by
              obtain ⟨im, h1, q, h2, h3'⟩ := rest_suf gg.hl hf hrR
              have := gg.h4 im h1
              rw [h3', List.length_append] at this
              omega
            have hjl := (List.getElem?_eq_some_iff.mp hrr).1
            refine ⟨_, rfl, a, rfl, ⟨_, SqL.of (s4' _ _ ha)⟩, ?_⟩
            refine for_it (walk_list (K := K) (a := a) (xs := txs ims)) (fun m σ H' => ∃ (s3 : Option V) (fr2 : List (List Nat)), σ = [some (.ref a), some (.ref p), s2, s3, s4, some (.int (0 + (i : Int))), some (.ref f), some (.str (S rr)), none] ∧ Same H H' ∧
                H' D = some (.lst (txs (nonE found))) ∧ H' p = some (.lst (txs found)) ∧ H' f = some (.lst (txs fr2)) ∧ fr2 = fr ++ (ims.take m).flatMap fun im => beh im rr ++ beh rr im)
              ⟨_, fr, rfl, s4', hD4, hp4, hf4, by rw [List.take_zero, List.flatMap_nil, List.append_nil]⟩ (fun _ _ _ _ ⟨_, _, _, s, _⟩ => SqL.of (s _ _ ha)) ?_ ?_
            · rintro m x σ H5' H5 hm ⟨s3, fr2, rfl, s5', hD5, hp5, hf5, hfr5⟩ ⟨rfl, e2⟩
              obtain ⟨im, him, rfl⟩ := txs_get e2
              have il := sixS (g.c1 him)
              have rl := sixS hrl
              refine ⟨_, rfl, .inl ⟨rfl, _, SqL.of hf5⟩, _, rfl, _, rfl, im, rr, rfl, il, rl, fun u hu => ?_⟩
              have w5 := sm_new (o := .lst (txs (beh im rr))) hu
              refine ⟨_, rfl, _, rfl, rr, im, rfl, rl, il, fun v hv => ?_⟩
              have w6 := sm_new (o := .lst (txs (beh rr im))) hv
              have n1 := beh_len im rr
              have n2 := beh_len rr im
              refine ⟨u, v, _, _, rfl, rfl, w6 _ _ upd_same, upd_same, by rw [txs_len, txs_len]; exact Nat.le_of_lt (small1000 (by omega)), fun z hz => ?_⟩
              have ez : txs (beh im rr) ++ txs (beh rr im) = txs (beh im rr ++ beh rr im) := by unfold txs; rw [List.map_append]
              rw [ez]
              have w7 := (w5.trans w6).trans (sm_new (o := .lst (txs (beh im rr ++ beh rr im))) hz)
              have hz7 : (upd (upd (upd H5 u (.lst (txs (beh im rr)))) v (.lst (txs (beh rr im)))) z (.lst (txs (beh im rr ++ beh rr im)))) z = some (.lst (txs (beh im rr ++ beh rr im))) := upd_same
              generalize upd (upd (upd H5 u (.lst (txs (beh im rr)))) v (.lst (txs (beh rr im)))) z (.lst (txs (beh im rr ++ beh rr im))) = H7 at w7 hz7 ⊢
              have nDf : D ≠ f := nfD.symm
              refine ⟨f, z, _, _, rfl, rfl, w7 _ _ hf5, hz7, ?_, ?_⟩
              · have q1 := part_len h3 (nonE found) j
                have q2 := part2_len h3 rr m
                have q3 : fr2.length ≤ (nonE found).length * 6 + 6 := by rw [hfr5, List.length_append, hfr4]; exact Nat.add_le_add q1 q2
                rw [txs_len, txs_len, List.length_append]
                exact Nat.le_of_lt (lineS (by omega))
              · refine ⟨_, fr2 ++ (beh im rr ++ beh rr im), rfl, sm_put (s5'.trans w7) hfn, by rw [upd_ne nDf]; exact w7 _ _ hD5, by rw [upd_ne npf]; exact w7 _ _ hp5, ?_, ?_⟩
                · rw [upd_same, txs_app]
                · rw [flat_more him, hfr5, List.append_assoc]
            · rintro σ H5 ⟨s3, fr2, rfl, s5', hD5, hp5, hf5, hfr5⟩
              rw [txs_len, take_all (Nat.le_refl _)] at hfr5
              refine ⟨_, _, fr2, rfl, s5', hD5, hp5, hf5, ?_⟩
              rw [flat_more hrr, ← hfr4, hfr5]
              rfl
          · rintro σ H4 ⟨s3, s7, fr, rfl, s4', hD4, hp4, hf4, hfr4⟩
            rw [txs_len, take_all (Nat.le_refl _)] at hfr4
            have hfr4 : fr = freshU ims found := hfr4
            subst hfr4
            obtain ⟨u1, u2⟩ := hT.small gg hf
            refine ⟨_, rfl, f, rfl, ⟨_, SqL.of hf4⟩, fun D2 hD2 => ?_⟩
            refine lc_keepF keep_same (walk_list (K := K) (a := f) (xs := txs (freshU ims found))) hD2 (by rw [txs_len]; exact lineS (by omega)) (fun i => (fun l => decide (l ∉ found)) ((freshU ims found).getD i [])) (fun i y _ => y = .str (S ((freshU ims found).getD i []))) (fun H r => SqL.of (r _ _ hf4)) (fun _ _ _ _ _ _ h => h) (fun _ _ _ _ _ _ _ h => h) (fun j x H5 H6 acc N R hj r hDa hy hR hN => ?_) (fun ys H5 hly hg r hDs => ?_)
            · obtain ⟨rfl, e1⟩ := hy
              obtain ⟨l, hl, rfl⟩ := txs_get e1
              have hgl : (freshU ims found).getD j [] = l := by rw [List.getD_eq_getElem?_getD, hl]; rfl
              rw [hgl] at hR hN
              refine ⟨rfl, _, rfl, _, rfl, p, txs found, rfl, .inl (SqL.of (r _ _ hp4)), rfl, flat_txs _, ?_⟩
              rw [show (if true = true then !inV (.str (S l)) (txs found) else inV (.str (S l)) (txs found)) = !decide (l ∈ found) from congrArg not inV_txs]
              refine ⟨_, rfl, ?_⟩
              by_cases h0 : l ∈ found
              · refine iteN (by rw [decide_eq_true h0]; rfl) ?_
                exact hN (decide_eq_false fun h => h h0) _ (Same.refl _)
              · refine iteB (by rw [decide_eq_false h0]; rfl) ?_
                exact ⟨_, rfl, hR (decide_eq_true h0) _ _ (Same.refl _) rfl⟩
            · have ey : ys = txs (freshF ims found) := taken_txs hly hg
              subst ey
              have s5' := s4'.trans r
              have hp5 := r _ _ hp4
              have fF : (freshF ims found).length ≤ 9437184 := Nat.le_trans (List.length_filter_le ..) u2
              have hsm : Small (freshF ims found) := fun l hl c hc => rest_small g hf (Turn.fr gg hT (List.mem_filter.mp hl).1) c hc
              refine ⟨_, rfl, by show 0 ≤ sizeLine; decide, fun e he => ?_⟩
              have w6 := sm_new (o := .lst []) he
              refine ⟨D2, e, freshF ims found, [], rfl, rfl, .inl ⟨SqL.of (w6 _ _ hDs), SqL.of upd_same⟩, hsm, (fun _ h => nomatch h), _, rfl, ?_⟩
              by_cases h0 : freshF ims found = []
              · refine iteB (decide_eq_true h0) ?_
                refine ⟨_, rfl, p, found, baseL ims, rfl, SqL.of (w6 _ _ hp5), fun x hx => rest_base gg.hl hf (hT.rst x hx), by have := baseL_len h3 gg.h4; omega, fun q ds hq hpw hmem => ?_⟩
                exact k q ds _ ((s5'.trans w6).trans (sm_new hq)) (s5'.free (sm_free hq he)) upd_same hpw fun x => (hmem x).trans (hT.done gg h0 x)
              · refine iteN (decide_eq_false h0) ?_
                refine ⟨_, rfl, _, rfl, p, D2, _, _, rfl, rfl, w6 _ _ hp5, w6 _ _ hDs, by rw [txs_len, txs_len]; exact Nat.le_of_lt (lineS (by omega)), fun z hz => ?_⟩
                refine ⟨z, _, _, _, _, _, _, found ++ freshF ims found, rfl, (s5'.trans w6).trans (sm_new hz), s5'.free (sm_free hz he), ?_, hT.next gg h0⟩
                rw [upd_same]; unfold txs; rw [List.map_append]
      · rintro σ H2 ⟨p, s2, s3, s4, s5, s6, s7, found, rfl, s1, hpn, hp1, hT⟩
        have h0 : found = [] := by
          rcases hT.le gg hf with h | h
          · exact h
          · omega
        refine ⟨_, rfl, p, found, baseL ims, rfl, SqL.of hp1, fun x hx => rest_base gg.hl hf (hT.rst x hx), by have := baseL_len h3 gg.h4; omega, fun q ds hq hpw hmem => ?_⟩
        exact k q ds _ (s1.trans (sm_new hq)) (s1.free hq) upd_same hpw fun x => (hmem x).trans (hT.done gg (by subst h0; rfl) x)
end
end Toy
set_option maxHeartbeats 4000000
namespace LX
open PySem PySem.Spec PyProof.Rows L2 C8 SX
structure ValX (P : Program) (w : World) (K : PySem.W.Frag) (mg : Str → Option Value) (base : Heap) (k : Nat) (x : Str) (C : Addr) (kw : Str) (sp : Sp) : Prop where
  ex : ∃ (f : Addr) (fd : FuncData) (ps : List Str), XC K C ∧ PySem.W.findIn K (.ref C) "__init__" = some (some (.ref f)) ∧ PySem.W.typeIn K (.ref f) = some (.type "function") ∧ FnOk P w K mg base C8.CX0 k f fd ps sp ∧ mg x = some (.ref C) ∧ Binds K fd ps [] ∧
    KBn K fd ps 1 [kw] (fun us ws => us ++ ws) (fun vs zs => vs ++ zs)
def tMkV (C : Addr) (sp : Sp) (t : TA) : TE := fun σ H Q => t σ H fun vs H1 => vs.length = 1 ∧ ∀ a, H1 a = none → sp (.ref a :: vs) (upd H1 a (exo a C none)) (fun v H2 => v = .non ∧ Q (.ref a) H2) (fun _ _ _ => False)
section
variable {X : Cx} {k j : Nat} {C : Addr} {sp : Sp} {x kw : Str} {p pos kpos : Pos} {e : Expr} {es : List Expr} {ta : TE} {t tk : TA} {kws : List Keyword}
theorem run_mkV {pins : List (Addr × Obj)} {σ : L2.St} {H1 : Hp} {Q : VK} {s1 : Shared} {f : Addr} {fd : FuncData} {ps : List Str} {us : List Value} {kvs : List (Str × Value)} {vs : List V} {all : List Value} (T : XC X.K C) (iC : PySem.W.findIn X.K (.ref C) "__init__" = some (some (.ref f))) (tI : PySem.W.typeIn X.K (.ref f) = some (.type "function"))
    (F1 : FnOk X.prog X.w X.K X.mg X.base C8.CX0 k f fd ps sp) (hr : Room (k + 1) X.A) (I1 : Inv X pins σ H1 s1) (hus : us.length ≤ sizeLine) (hb : ∀ (s : Shared) (e : Value), X.K.In s.heap → BindsTo s fd ⟨e :: us, kvs⟩ (ps.zip (e :: all))) (r : Vals vs all)
    (q : ∀ a, H1 a = none → sp (.ref a :: vs) (upd H1 a (exo a C none)) (fun v H2 => v = .non ∧ Q (.ref a) H2) (fun _ _ _ => False)) : wpAny (model X.prog X.w) X.A (call (.ref C) us kvs) (EP X pins σ Q) X.xe s1 := by
  obtain ⟨nm, qn, N, bs, bm, sn, sub, ab, col, dd, k0, k1, k2, k3, k5, B, newId, initId, bmF, F, hC, hB, hA, hN, hp0, hob⟩ := T.data
  obtain ⟨hp, g, dr, tk, os⟩ := s1
  have hsz : hp.objs.size ≤ hp.objs.size + 1 := Nat.le_succ _
  have hn : H1 (hp.objs.size + 1) = none := I1.hok.fresh hsz
  have hq := q (hp.objs.size + 1) hn
  have kk : ∀ b o, hp.get? b = some o → ((hp.push (PySem.W.kdv_tup us)).push (PySem.HandSPX.excO C hp.objs.size)).get? b = some o := fun b o e => Heap.get?_push_of_some _ (Heap.get?_push_of_some _ e)
  have hget : ((hp.push (PySem.W.kdv_tup us)).push (PySem.HandSPX.excO C hp.objs.size)).get? (hp.objs.size + 1) = some (PySem.HandSPX.excO C hp.objs.size) := by heap_get
  have I2 : Inv X pins σ (upd H1 (hp.objs.size + 1) (exo (hp.objs.size + 1) C none)) ⟨(hp.push (PySem.W.kdv_tup us)).push (PySem.HandSPX.excO C hp.objs.size), g, dr, tk, os⟩ :=
    I1.laid (t' := tk) (a := hp.objs.size + 1) (o := exo (hp.objs.size + 1) C none) (h' := (hp.push (PySem.W.kdv_tup us)).push (PySem.HandSPX.excO C hp.objs.size)) kk hsz (exo_ok hget)
  have r2 : Vals (V.ref (hp.objs.size + 1) :: vs) (Value.ref (hp.objs.size + 1) :: all) := .cons rfl r
  refine wpAny_call (EV.call_kw (kw := kvs) F hB hA hN (I1.kIn _ _ hC) (PySem.W.looks_findIn I1.kIn iC) (fun self => PySem.W.bind_fn I1.kIn self tI) hus
    (codeAny_mono (F1.run _ X.stack _ _ ⟨Value.ref (hp.objs.size + 1) :: us, kvs⟩ (Value.ref (hp.objs.size + 1) :: all) _ _ (fun _ _ _ => False) (hr.make C us kvs) (I2.env0.make C us kvs) (hb _ _ I2.kIn) r2 hq) fun r s' hq' => ?_))
  cases r with
  | error er => exact hq'.elim
  | ok fl =>
    cases fl with
    | ret u =>
      obtain ⟨v, H', I3, rv, ev, q3⟩ := I2.after hq'
      subst ev
      exact ⟨rv, ⟨V.ref (hp.objs.size + 1), H', I3, rfl, q3⟩⟩
    | next => exact False.elim hq'
    | brk => exact False.elim hq'
    | cont => exact False.elim hq'
theorem pe_mkV (c : ValX X.prog X.w X.K X.mg X.base k x C kw sp) (hr : Room j X.A) (hk : k + 1 ≤ j) (hg : Gl X x) (ha : PA X (e :: es) t) (hdb : (x == ("__debug__" : Str)) = false := by decide)
    (he : starEach (e :: es) X.env = (false, eval e X.env) :: starEach es X.env := by rfl) (hpl : (backTo pos (starEach es X.env)).any (·.1) = false := by rfl) : PE X (.Call (.Name x p) (e :: es) [] pos) (tMkV C sp t) := by
  obtain ⟨f, fd, ps, T, iC, tI, F1, hm, hb, kb⟩ := c.ex
  refine ⟨fun pins s σ H Q I h => ?_⟩
  refine wpAny_Call_Name_kw (ld_glob I hg hm ?_ hdb)
  refine PySem.W.callWith_K (h₀ := X.base) I.ok.mod.kin T.kC (thn (ha.run pos pins s σ H _ I h) fun us s1 ⟨vs, H1, I1, r1, hz, q1⟩ => ⟨I1.kIn, ?_⟩) he hpl
  have lu : us.length = 1 := by rw [← Paired.length r1]; exact hz
  show wpAny _ _ (call (.ref C) us []) _ _ _
  refine run_mkV (kvs := []) T iC tI F1 (hr.mono hk) I1 (by rw [lu]; decide) (fun s e hK => ?_) r1 q1
  have hl : (e :: us).length = ps.length := by
    have := F1.len _ _ _ _ (q1 _ (I1.hok.fresh (Nat.le_refl _)))
    rw [List.length_cons, Paired.length r1] at this
    rw [List.length_cons]; exact this
  have b2 := hb s (e :: us) hK (by rw [List.append_nil]; exact hl)
  rw [List.append_nil] at b2
  exact b2
theorem pe_mkVk (c : ValX X.prog X.w X.K X.mg X.base k x C kw sp) (hr : Room j X.A) (hk : k + 1 ≤ j) (hg : Gl X x) (hkw : PK X kws tk) (hall : (backToKw pos (keywordEach kws X.env)).all (·.1.isSome) = true := by rfl) (hks : (backToKw pos (keywordEach kws X.env)).filterMap (·.1) = [kw] := by rfl)
    (hdb : (x == ("__debug__" : Str)) = false := by decide)
    (hpl : ((backTo pos (starEach [] X.env)).any (·.1) || (backToKw pos (keywordEach kws X.env)).any (·.1.isNone)) = false := by rfl) : PE X (.Call (.Name x p) [] kws pos) (tMkV C sp tk) := by
  obtain ⟨f, fd, ps, T, iC, tI, F1, hm, hb, kb⟩ := c.ex
  refine ⟨fun pins s σ H Q I h => ?_⟩
  refine wpAny_Call_Name_kw (ld_glob I hg hm ?_ hdb)
  refine PySem.W.callWith_KW0 (h₀ := X.base) I.ok.mod.kin T.kC hall (thn (hkw.run pos pins s σ H _ I h) fun ws s2 ⟨zs, H2, I2, rz, hz, q2⟩ => ⟨I2.kIn, ?_⟩) hpl
  rw [hks]
  have lw : ws.length = 1 := by rw [← Paired.length rz]; exact hz
  exact run_mkV (us := []) (kvs := [kw].zip ws) (all := ws) T iC tI F1 (hr.mono hk) I2 (Nat.zero_le _) (fun s e hK => kb.to s [e] ws hK rfl lw) rz q2
end
def ExV (H : Hp) (a C : Addr) (f : Str) (v : V) : Prop := ∃ dx, H a = some (exo a C (some dx)) ∧ H dx = some (exd dx [(f, v)])
theorem ExV.same {H H' : Hp} {a C : Addr} {f : Str} {v : V} (h : ExV H a C f v) (s : Same H H') : ExV H' a C f v := let ⟨dx, h1, h2⟩ := h; ⟨dx, s _ _ h1, s _ _ h2⟩
def ExD (H : Hp) (a D : Addr) : Prop := (∃ f v, ExV H a D f v) ∨ H a = some (ExO (.ref D) a)
theorem ExD.same {H H' : Hp} {a C : Addr} (h : ExD H a C) (s : Same H H') : ExD H' a C := h.elim (fun ⟨f, v, h⟩ => .inl ⟨f, v, h.same s⟩) fun h => .inr (s _ _ h)
theorem exd_inst {X : Cx} {pins : List (Addr × Obj)} {σ : L2.St} {H : Hp} {s : Shared} {a D : Addr} (I : Inv X pins σ H s) (h : ExD H a D) : ∃ (ox : Obj) (od : Option Obj), PySem.W.InstAt s.heap a ox D od := by
  rcases h with ⟨f, v, dx, h1, h2⟩ | h
  · obtain ⟨t1, ho⟩ := exo_at I.hok h1
    obtain ⟨mA, hns, rel⟩ := exd_at I.hok h2
    obtain ⟨o, _, _, e1, _⟩ := hns
    exact ⟨_, some o, ho, rfl, rfl, e1⟩
  · have x : ObjOk X.prog X.w H s.heap a (.ext fun h => ∃ (oe : Obj) (vs : Array Value), h.get? a = some oe ∧ Zc (.ref D) none oe ∧ oe.data = .fields vs ∧ vs[1]? = some .none ∧ vs[2]? = some .none ∧ 4 < vs.size) := I.hok a _ h
    obtain ⟨oe, vs, e, z, d, _⟩ := x.1
    refine ⟨oe, none, e, z.1, by unfold PySem.W.notCls; rw [d] <;> rfl, ?_⟩
    rw [z.2]; exact True.intro
def rIsV (K : PySem.W.Frag) : List V → Hp → VK → Prop := fun xs H Q => ∃ (D a : Addr) (c : V) (cv : Value) (b : Bool), ExcC K D ∧ xs = [.ref a, c] ∧ (∀ u, RelV c u → u = cv) ∧ PySem.W.kitOne K (.ref D) cv = some b ∧ ExD H a D ∧ Q (.bl b) H
theorem call_isV {X : Cx} : CallR X (.builtin "isinstance") (rIsV X.K) := by
  intro pins s σ H xs us Q I r h
  obtain ⟨D, a, c, cv, b, C, rfl, hcv, e, hd, q⟩ := h
  cases r with
  | cons rx rr =>
    cases rr with
    | cons rt rr =>
      cases rr
      cases rx
      have ec := hcv _ rt
      subst ec
      obtain ⟨ox, od, J⟩ := exd_inst I hd
      exact PySem.W.kia_one (EV.kitx_excD (od := od) C.hg C.hk C.hs C.hd C.ha C.hn C.ht C.hm) I.kIn J e (fun z => nomatch z) fun tk => ⟨.bl b, H, I.kept (t' := tk) fun _ _ z => z, rfl, q⟩
def tXfV (K : PySem.W.Frag) (f : Str) (te : TE) : TE := fun σ H Q => te σ H fun x H1 => ∃ (a C : Addr) (v : V), x = .ref a ∧ XfC K C ∧ PySem.W.findIn K (.ref C) f = some none ∧ ExV H1 a C f v ∧ Q v H1
theorem pe_xfV {X : Cx} {e : Expr} {te : TE} {pos : Pos} {n : Str} (K : PySem.W.Frag) (he : PE X e te) (hK : X.K = K := by rfl) (hb : attributeBase e n X.env (eval e X.env) = eval e X.env := by rfl) : PE X (.Attribute e n pos) (tXfV K n te) := by
  subst hK
  refine ⟨fun pins s σ H Q I h => ?_⟩
  refine attr_of hb (thn (he.run pins s σ H _ I h) fun u s1 hh => ?_)
  obtain ⟨x, H1, I1, rx, a, C, v, ex, T, hno, ⟨dx, h1, h2⟩, q⟩ := hh
  subst ex
  obtain rfl : u = Value.ref a := rx
  obtain ⟨t1, ho⟩ := exo_at I1.hok h1
  obtain ⟨mA, hns, hr⟩ := exd_at I1.hok h2
  obtain ⟨od, hod, hl⟩ := lookIn_ns hns
  obtain ⟨u, hu, ru⟩ := RelO.some_of (v := v) (o := mA n) (by have := hr n; rwa [show ([(n, v)] : List (Str × V)).lookup n = some v by simp] at this)
  have J : PySem.W.InstAt s1.heap a _ C (some od) := ⟨ho, rfl, rfl, hod⟩
  exact HandSPX.exc_get I1.kIn J T.ga T.gg T.exC (PySem.W.findObj_own T.hdC hno rfl (by rw [hl, hu])) (handed_of ru) ⟨v, H1, I1.tok _, ru, q⟩
theorem pe_exc0 {X : Cx} {C : Addr} {bmB : List Value} {B newId initId : String} {x : Str} {p pos : Pos} (F : ExcBaseFacts B newId initId bmB) (q : PySem.W.excIn X.K C bmB newId = true) (gC : X.mg x = some (.ref C)) (kC : PySem.W.keepIn X.K (.ref C) = true) (hg : Gl X x)
    (hdb : (x == ("__debug__" : Str)) = false := by decide) : PE X (.Call (.Name x p) [] [] pos) (fun σ H Q => ∀ a, H a = none → Q (.ref a) (upd H a (ExO (.ref C) a))) := by
  refine ⟨fun pins s σ H Q I h => ?_⟩
  refine wpAny_Call_Name_kw (ld_glob I hg gC ?_ hdb)
  refine PySem.W.callWith_K0 I.kIn kC ?_
  show wpAny _ _ (call (.ref C) []) _ _ _
  obtain ⟨bm, N, nm, qn, bs, hdct, sn, sub, ab, col, dd, k0, k1, k2, k3, k5, mN, hC, hN, hni, T⟩ := exc_obj I.kIn q
  refine wpAny_call_exc_subT F T hC hN hni (fun h' a hm => ?_) (by show 0 ≤ sizeLine; exact Nat.zero_le _)
  have hn : H a = none := I.hok.gone hm.new
  obtain ⟨t, ht, _, _⟩ := hm.there
  exact ⟨.ref a, upd H a (ExO (.ref C) a), I.laidN hm.keeps hm.new hn (exO_ok ht ⟨rfl, rfl⟩ rfl rfl rfl (show 4 < 6 by decide)), rfl, h a hn⟩
def rpr : PyData → Str
  | .none => "None"
  | .bool b => if b then "True" else "False"
  | .int i => toString i
  | .str x => reprText x
  | d => d.shown
def rprB : PyData → Bool
  | .int i => decide (i.natAbs.log2 < 1920)
  | .str x => decide ((reprText x).length ≤ sizeLine)
  | _ => true
theorem call_reprV {X : Cx} {j : Nat} (gd : X.A.guards = some []) (room : Room j X.A) (K : PySem.W.Frag) (hK : X.K = K := by rfl) : CallR X (.builtin "repr") (fun xs H Q => ∃ (v : V) (d : PyData) (k n : Nat), xs = [v] ∧ Dp K H v d ∧ Fit k n d ∧ k ≤ 60 ∧ n ≤ 1000000 ∧ rprB d = true ∧ Q (.str (rpr d)) H) := by
  subst hK
  intro pins s σ H xs us Q I rel want
  obtain ⟨v, d, k, n, rfl, hd, f, hk, hn, hb, q⟩ := want
  cases hd with
  | non =>
    obtain ⟨u, rfl, ru⟩ := vals1 rel
    cases ru
    exact PySem.P.repr_of_none ⟨.str "None", H, I.tok _, ⟨_, rfl⟩, q⟩
  | bl b =>
    obtain ⟨u, rfl, ru⟩ := vals1 rel
    cases ru
    exact PySem.P.repr_of_bool ⟨.str (if b then "True" else "False"), H, I.tok _, ⟨_, rfl⟩, q⟩
  | int i =>
    obtain ⟨u, rfl, t, rfl⟩ := vals1 rel
    exact PySem.P.repr_of_int (of_decide_eq_true hb) ⟨.str (toString i), H, I.tok _, ⟨_, rfl⟩, q⟩
  | str x =>
    obtain ⟨u, rfl, t, rfl⟩ := vals1 rel
    exact PySem.P.repr_of_str ⟨.str (reprText x), H, I.tok _, ⟨_, rfl⟩, q⟩ (of_decide_eq_true hb)
  | lst h1 h2 => exact call_reprG gd room pins s σ H _ us Q I rel ⟨_, _, rfl, .lst h1 h2, f.sho, PyData.hasDict_of_canLay _ f.lay, Nat.le_trans f.dep hk, f.size hn, q⟩
  | tup h1 h2 => exact call_reprG gd room pins s σ H _ us Q I rel ⟨_, _, rfl, .tup h1 h2, f.sho, PyData.hasDict_of_canLay _ f.lay, Nat.le_trans f.dep hk, f.size hn, q⟩
end LX
set_option maxHeartbeats 2000000
namespace Toy
open PySem L2 C8 SX LX K4
local macro_rules | `(tactic| walk_at "c") => `(tactic| refine And.intro (by first | (show (0 : Int) < _; omega) | exact Or.inr ⟨by decide, by decide⟩ | exact Or.inl ⟨by decide, by decide⟩ | (exact ⟨by omega, by omega⟩)) ?_)
local macro_rules | `(tactic| walk_at "s1") => `(tactic| first | refine ⟨_, rfl, ?_⟩ | refine ⟨_, _, rfl, rfl, ?_⟩ | refine .inl ⟨_, rfl, ?_⟩ | walk_at "c")
local macro_rules | `(tactic| walk_at "ix") => `(tactic| refine ⟨_, _, _, _, rfl, rfl, SqL.of (by first | assumption | exact upd_same), rfl, ?_⟩)
local macro_rules | `(tactic| walk_at "s") => `(tactic| repeat (walk_at "s1"))
theorem okD_S {l : List Nat} (h1 : l.length ≤ 40) (h2 : ∀ c ∈ l, c < 1114112) : okD (.str (S l)) = true := by
  unfold okD
  rw [Bool.and_eq_true, decide_eq_true_eq, S_len]
  exact ⟨h1, List.all_eq_true.mpr fun c hc => decide_eq_true (h2 c (by simpa [S] using hc))⟩
theorem ov_sm {sg l : List Nat} (hm : Menu sg) (h : Ov sg l) : ∀ c ∈ l, c < 1114112 := fun c hc => by have := menu_small hm c (h c hc); omega
theorem ok_two {sg u v : List Nat} (hm : Menu sg) (hu : Ov sg u) (hv : Ov sg v) (lu : u.length ≤ 20) (lv : v.length ≤ 20) : okD (.tuple [.str (S u), .str (S v)]) = true :=
  okD_tup (by show 2 ≤ 20; decide) fun d hd => by
    rcases List.mem_cons.mp hd with rfl | hd
    · exact okD_S (by omega) (ov_sm hm hu)
    · rw [List.mem_singleton.mp hd]; exact okD_S (by omega) (ov_sm hm hv)
theorem dp_two {K : PySem.W.Frag} {H : Hp} {t : Addr} {u v : List Nat} (h : H t = some (.tup [.str (S u), .str (S v)])) : Dp K H (.ref t) (.tuple [.str (S u), .str (S v)]) :=
  .tup (SqT.of h) (.cons (.str _) (.cons (.str _) .nil))
section
variable {P : Program} {w : World} {K : PySem.W.Frag} {mg : Str → Option Value} {base : Heap}
abbrev s_told : Stmt := top 33
abbrev n_told : List Str := ["signs", "images", "made", "is_good", "told", "ends", "row"]
theorem sc_told : FnScope n_told ["signs", "images", "made", "is_good"] (fnScope s_told) := fnScope_by (by decide +kernel)
def spTold (K : PySem.W.Frag) (C : Addr) : Sp := fun vs H Q _ => ∃ (sg : List Nat) (p a : Addr) (ims : List (List Nat)) (b : Bool), vs = [.str (S sg), .ref p, .ref a, .bl b] ∧ H p = some (.lst (txs ims)) ∧ Chg K C H a sg ims ∧ Gd sg ims ∧ (b = true ↔ Clear sg ims) ∧
  ∀ H', Same H H' → Q (.bl true) H'
theorem ok_told {C : Addr} (T : BT mg) (c_clash : Cal P w K mg base 3 "clash" (spClash K C) []) (c_holds : Cal P w K mg base 3 "clash_holds" (spHolds K C) []) (c_image : Cal P w K mg base 1 "_law_image" (spImage K) []) {f : Addr} {fd : FuncData} (F : Def K mg "_law_told_right" s_told f fd) (b : Binds K fd ["signs", "images", "made", "is_good"] []) : Cal P w K mg base 4 "_law_told_right" (spTold K C) [] := by
  refine cal0 F b .nil sc_told (fun vs H Q E h => ?_) (fun cdv A outer s H vs Q E hr h => ?_)
  · obtain ⟨sg, p, a, ims, b, rfl, _⟩ := h; rfl
  · obtain ⟨sg, p, a, ims, b, rfl, hp, hc, g, hb, k⟩ := h
    refine ⟨_, (pss_cons (ps_set (i := 4) sc_told.nd rfl (.inl rfl) (pe_c c_clash hr (by first | decide | omega) (by rfl) (pa_cons (pv 2) pa_nil)))
      (pss_cons (ps_if (PW.pt (pw_or (pt_cmpR op_isN (pv 4) pe_non (nomark _)) (pw_or1 (pt_val (pv 3))))) 
        (pss_one (ps_ret (pe_and (pe_cmpR op_isN (pv 4) pe_non (nomark _)) (pe_one (pv 3))))
        )
       pss_nil)
      (pss_cons (ps_setLc (i := 5) (own := [("row", 6)]) rfl sc_told.nd rfl rfl rfl (pi_tup (pv 4)) (blkOk_by (N := n_told) (sc := fnScope s_told) (by decide +kernel)) (fun _ _ _ _ _ => (pg_name (i := 6) sc_told.nd rfl (.inl rfl))) (fun _ _ _ _ _ => pts_nil) (fun _ _ _ _ _ => (pe_c c_image hr (by first | decide | omega) (by rfl) (pa_cons (pv 0) (pa_cons (pv 1) (pa_cons (pv 6) pa_nil))))))
      (pss_one (ps_ret (pe_and (pe_cmpR LX.op_isBl (pe_c c_holds hr (by first | decide | omega) (by rfl) (pa_cons (pv 2) (pa_cons (pv 4) pa_nil))) pe_bl (nomark _)) (pe_and (pe_cmpR op_ne (pe_ix (ixt K) (pv 4) pe_int (fun _ _ => rfl)) (pe_ix (ixt K) (pv 4) pe_int (fun _ _ => rfl)) (nomark _)) (pe_one (pe_cmpR op_eq (pe_ix (ixl K) (pv 5) pe_int (fun _ _ => rfl)) (pe_ix (ixl K) (pv 5) pe_int (fun _ _ => rfl)) (nomark _))))))
      )))), ?_⟩
    refine ⟨_, rfl, a, sg, ims, rfl, hc, g, fun cl H1 s1 => ?_, fun ncl t u v H1 s1 ht ou ov lu lv hne heq => ?_⟩
    · refine ⟨_, rfl, rfl, _, rfl, iteB rfl ?_⟩
      refine ⟨_, rfl, rfl, _, rfl, iteB rfl ?_⟩
      refine ⟨_, rfl, ?_⟩
      rw [hb.mpr cl]
      exact k H1 s1
    · have hbf : b = false := by
        cases b with
        | false => rfl
        | true => exact absurd (hb.mp rfl) ncl
      subst hbf
      refine ⟨_, rfl, rfl, _, rfl, iteN (by simp) ?_⟩
      refine ⟨_, rfl, _, rfl, iteN rfl ?_⟩
      refine ⟨_, rfl, t, rfl, ⟨_, SqT.of ht⟩, fun D hD => ?_⟩
      refine lc_keep keep_same (walk_tup (K := K) (a := t) (xs := txs [u, v])) hD (by show 2 < sizeLine; decide) (fun j y => y = .str (S (app sg ims u))) (fun H r => SqT.of (r _ _ ht)) (fun i x H2 H3 R hi r hy hR => ?_) (fun ys H2 hly hg r hDs => ?_)
      · obtain ⟨rfl, e1⟩ := hy
        obtain ⟨l, hl, rfl⟩ := txs_get e1
        have hlm := List.mem_of_getElem? hl
        have hll : Ov sg l ∧ l.length ≤ 20 ∧ app sg ims l = app sg ims u := by
          rcases List.mem_cons.mp hlm with rfl | hlm
          · exact ⟨ou, lu, rfl⟩
          · rw [List.mem_singleton.mp hlm]; exact ⟨ov, lv, heq.symm⟩
        refine ⟨rfl, _, rfl, _, rfl, _, rfl, sg, p, ims, l, rfl, SqL.of (r _ _ (s1 _ _ hp)), g, hll.1, by have := hll.2.1; omega, fun H4 s4 => ?_⟩
        exact hR _ _ s4 (by rw [hll.2.2])
      · have ey : ys = [.str (S (app sg ims u)), .str (S (app sg ims u))] := by
          have h2 : ys.length = 2 := hly
          match ys, h2, hg with
          | [y0, y1], _, hg => rw [hg 0 y0 rfl, hg 1 y1 rfl]
        subst ey
        have s2 := s1.trans r
        have ht2 := r _ _ ht
        refine ⟨_, rfl, _, rfl, a, .ref t, .tuple [.str (S u), .str (S v)], sg, ims, rfl, hc.same s2, g, dp_two ht2, ok_two g.mn ou ov lu lv, fun H3 s3 => ?_⟩
        rw [holds_two ou ov, decide_eq_true (p := u ≠ v) hne, decide_eq_true heq]
        refine ⟨true, true, rfl, rfl, _, rfl, iteB rfl ?_⟩
        have ht3 := s3 _ _ ht2
        have hD3 := s3 _ _ hDs
        refine ⟨_, rfl, t, _, 0, _, rfl, rfl, SqT.of ht3, rfl, _, rfl, t, _, 1, _, rfl, rfl, SqT.of ht3, rfl, rfl, _, rfl, ?_⟩
        refine iteB (by simp [S]; exact hne) ?_
        refine ⟨_, rfl, D, _, 0, _, rfl, rfl, SqL.of hD3, rfl, _, rfl, D, _, 1, _, rfl, rfl, SqL.of hD3, rfl, rfl, ?_⟩
        rw [decide_eq_true rfl]
        exact k H3 (s2.trans s3)
end
end Toy
set_option maxHeartbeats 2000000
namespace Toy
open PySem L2 C8 SX LX K4
local macro_rules | `(tactic| walk_at "c") => `(tactic| refine And.intro (by first | (show (0 : Int) < _; omega) | exact Or.inr ⟨by decide, by decide⟩ | exact Or.inl ⟨by decide, by decide⟩ | (exact ⟨by omega, by omega⟩)) ?_)
local macro_rules | `(tactic| walk_at "s1") => `(tactic| first | refine ⟨_, rfl, ?_⟩ | refine ⟨_, _, rfl, rfl, ?_⟩ | refine .inl ⟨_, rfl, ?_⟩ | walk_at "c")
local macro_rules | `(tactic| walk_at "ix") => `(tactic| refine ⟨_, _, _, _, rfl, rfl, SqL.of (by first | assumption | exact upd_same), rfl, ?_⟩)
local macro_rules | `(tactic| walk_at "s") => `(tactic| repeat (walk_at "s1"))
theorem Chg.bx {K : PySem.W.Frag} {C a b : Addr} {H H' : Hp} {sg : List Nat} {ims : List (List Nat)} (hb : BoxAt b H) (s : Bx b H H') (h : Chg K C H a sg ims) : Chg K C H' a sg ims := by
  obtain ⟨dx, r, h1, h2⟩ := h
  obtain ⟨o, eo, x, y, z, rfl⟩ := hb
  refine ⟨dx, r, s.1 _ _ (fun e => by rw [e, eo] at h1; cases h1) h1, ?_⟩
  rcases h2 with (h2 | ⟨o', h2⟩) | h2
  · exact .inl (.inl (s.1 _ _ (fun e => by rw [e, eo] at h2; cases h2) h2))
  · exact .inl (.inr ⟨o', s.1 _ _ (fun e => by rw [e, eo] at h2; cases h2) h2⟩)
  · exact .inr h2
theorem wo_nil {H : Hp} : wo [] H = H := funext fun a => if_neg (List.not_mem_nil)
theorem holds_odd {sg one other : List Nat} {ims : List (List Nat)} (hm : Menu sg) : ∀ d ∈ [PyData.list [.str (S one), .str (S other)], .tuple [.str (S one), .none], .tuple [.str (S one), .str "A"], .tuple [.str (S one), .str "?"], .tuple [.str (S one), .str (S other), .str (S one)], .tuple [.str (S one)], .tuple [], .none, .int 3], holdsD sg ims d = false := by
  have no : ∀ c : Nat, c < 97 → ∀ x : Str, x.cps.toList = [c] → holdsD sg ims (.tuple [.str (S one), .str x]) = false := fun c hc x hx => by
    have e : holdsD sg ims (.tuple [.str (S one), .str x]) = (decide (Ov sg (S one).cps.toList) && decide (Ov sg x.cps.toList) && (decide ((S one).cps.toList ≠ x.cps.toList) && decide (app sg ims (S one).cps.toList = app sg ims x.cps.toList))) := rfl
    have n : ¬ Ov sg x.cps.toList := fun h => by
      have := menu_small hm c (h c (by rw [hx]; exact List.mem_singleton.mpr rfl))
      omega
    rw [e, decide_eq_false n, Bool.and_false]; rfl
  intro d hd
  simp only [List.mem_cons, List.not_mem_nil, or_false] at hd
  rcases hd with rfl | rfl | rfl | rfl | rfl | rfl | rfl | rfl | rfl
  · rfl
  · rfl
  · exact no 65 (by decide) _ (by decide +kernel)
  · exact no 63 (by decide) _ (by decide +kernel)
  · rfl
  · rfl
  · rfl
  · rfl
  · rfl
theorem ok_odd {sg one other : List Nat} (hm : Menu sg) (h1 : Ov sg one) (h2 : Ov sg other) (l1 : one.length ≤ 20) (l2 : other.length ≤ 20) : ∀ d ∈ [PyData.list [.str (S one), .str (S other)], .tuple [.str (S one), .none], .tuple [.str (S one), .str "A"], .tuple [.str (S one), .str "?"], .tuple [.str (S one), .str (S other), .str (S one)], .tuple [.str (S one)], .tuple [], .none, .int 3], okD d = true := by
  have o1 : okD (.str (S one)) = true := okD_S (by omega) (ov_sm hm h1)
  have o2 : okD (.str (S other)) = true := okD_S (by omega) (ov_sm hm h2)
  have oA : okD (.str "A") = true := by decide +kernel
  have oQ : okD (.str "?") = true := by decide +kernel
  have oN : okD .none = true := rfl
  intro d hd
  simp only [List.mem_cons, List.not_mem_nil, or_false] at hd
  rcases hd with rfl | rfl | rfl | rfl | rfl | rfl | rfl | rfl | rfl
  · exact okD_lst (by show 2 ≤ 20; decide) fun d hd => by simp only [List.mem_cons, List.not_mem_nil, or_false] at hd; rcases hd with rfl | rfl <;> assumption
  · exact okD_tup (by show 2 ≤ 20; decide) fun d hd => by simp only [List.mem_cons, List.not_mem_nil, or_false] at hd; rcases hd with rfl | rfl <;> assumption
  · exact okD_tup (by show 2 ≤ 20; decide) fun d hd => by simp only [List.mem_cons, List.not_mem_nil, or_false] at hd; rcases hd with rfl | rfl <;> assumption
  · exact okD_tup (by show 2 ≤ 20; decide) fun d hd => by simp only [List.mem_cons, List.not_mem_nil, or_false] at hd; rcases hd with rfl | rfl <;> assumption
  · exact okD_tup (by show 3 ≤ 20; decide) fun d hd => by simp only [List.mem_cons, List.not_mem_nil, or_false] at hd; rcases hd with rfl | rfl | rfl <;> assumption
  · exact okD_tup (by show 1 ≤ 20; decide) fun d hd => by simp only [List.mem_cons, List.not_mem_nil, or_false] at hd; rcases hd with rfl; assumption
  · exact okD_tup (by show 0 ≤ 20; decide) (fun _ h => nomatch h)
  · rfl
  · rfl
theorem none_taken (n : Nat) : takenN (fun _ => false) n = [] := by
  unfold takenN
  exact List.filter_eq_nil_iff.mpr fun _ _ => by simp
theorem tup_no {d : PyData} {sg : List Nat} {ims : List (List Nat)} (h : ∀ ds, d ≠ .tuple ds) : holdsD sg ims d = false := by
  cases d with
  | tuple ds => exact absurd rfl (h ds)
  | _ => rfl
theorem and2 {c d : Bool} {A : VK → Prop} {Kt : VK} {H : Hp} (hA : ∀ Q : VK, Q (.bl d) H → A Q) (h : Kt (.bl (c && d)) H) : if c = true then A Kt else Kt (.bl false) H := by
  cases c with
  | true => exact hA _ h
  | false => exact h
section
variable {P : Program} {w : World} {K : PySem.W.Frag} {mg : Str → Option Value} {base : Heap}
abbrev s_others : Stmt := top 34
abbrev n_others : List Str := ["box", "signs", "images", "made", "one", "other", "ends", "odd", "thing", "row", "value"]
theorem sc_others : FnScope n_others ["box", "signs", "images", "made"] (fnScope s_others) := fnScope_by (by decide +kernel)
def spOthers (K : PySem.W.Frag) (C : Addr) : Sp := fun vs H Q _ => ∃ (b : Addr) (sg : List Nat) (p a : Addr) (ims : List (List Nat)), vs = [.ref b, .str (S sg), .ref p, .ref a] ∧ BoxAt b H ∧ p ≠ b ∧ H p = some (.lst (txs ims)) ∧ Chg K C H a sg ims ∧ Gd sg ims ∧
  ∀ H', Bx b H H' → Q (.bl true) H'
theorem ok_others {C : Addr} (T : BT mg) (c_row : Cal P w K mg base 3 "_law_row" spRow []) (c_holds : Cal P w K mg base 3 "clash_holds" (spHolds K C) []) (c_image : Cal P w K mg base 1 "_law_image" (spImage K) []) (c_any : Cal P w K mg base 9 "_law_any" (spAny K 6) [])
    {f : Addr} {fd : FuncData} (F : Def K mg "_law_others_right" s_others f fd) (b : Binds K fd ["box", "signs", "images", "made"] []) : CalG P w K mg base 10 "_law_others_right" (spOthers K C) := by
  refine ⟨f, fd, ["box", "signs", "images", "made"], fnG0 F.fn sc_others (fun vs H Q E h => ?_) (fun cd A ou t0 H vs Q E gd hr h => ?_), F.mgf, F.kp, b⟩
  · obtain ⟨b, sg, p, a, ims, rfl, _⟩ := h; rfl
  · obtain ⟨b, sg, p, a, ims, rfl, hb, npb, hp, hc, g, k⟩ := h
    have hm := g.mn
    refine ⟨_, (pss_cons (ps_par (i := 4) (j := 5) rfl sc_others.nd rfl rfl (by decide) rfl rfl (pa_cons (pe_c c_row hr (by first | decide | omega) (by rfl) (pa_cons (pv 0) (pa_cons (pv 1) (pa_cons pe_int pa_nil)))) (pa_cons (pe_c c_row hr (by first | decide | omega) (by rfl) (pa_cons (pv 0) (pa_cons (pv 1) (pa_cons pe_int pa_nil)))) pa_nil)) rfl)
      (pss_cons (ps_setLc (i := 6) (own := [("row", 9)]) rfl sc_others.nd rfl rfl rfl (pi_tup (pe_tup (pa_cons (pv 4) (pa_cons (pv 5) pa_nil)))) (blkOk_by (N := n_others) (sc := fnScope s_others) (by decide +kernel)) (fun _ _ _ _ _ => (pg_name (i := 9) sc_others.nd rfl (.inl rfl))) (fun _ _ _ _ _ => pts_nil) (fun _ _ _ _ _ => (pe_c c_image hr (by first | decide | omega) (by rfl) (pa_cons (pv 1) (pa_cons (pv 2) (pa_cons (pv 9) pa_nil))))))
      (pss_cons (ps_if (pt_cmpR op_ne (pe_callB (call_reprV gd hr K) (by rfl) T.m_repr PyProof.Rows.boot_repr (pa_cons (pe_c c_holds hr (by first | decide | omega) (by rfl) (pa_cons (pv 3) (pa_cons (pe_tup (pa_cons (pv 4) (pa_cons (pv 5) pa_nil))) pa_nil))) pa_nil)) (pe_callB (call_reprV gd hr K) (by rfl) T.m_repr PyProof.Rows.boot_repr (pa_cons (pe_and (pe_cmpR op_ne (pv 4) (pv 5) (nomark _)) (pe_one (pe_cmpR op_eq (pe_ix (ixl K) (pv 6) pe_int (fun _ _ => rfl)) (pe_ix (ixl K) (pv 6) pe_int (fun _ _ => rfl)) (nomark _)))) pa_nil)) (nomark _)) 
        (pss_one (ps_ret pe_bl)
        )
       pss_nil)
      (pss_cons (ps_set (i := 7) sc_others.nd rfl (.inl rfl) (pe_lst (pa_cons (pe_lst (pa_cons (pv 4) (pa_cons (pv 5) pa_nil))) (pa_cons (pe_tup (pa_cons (pv 4) (pa_cons pe_non pa_nil))) (pa_cons (pe_tup (pa_cons (pv 4) (pa_cons pe_str pa_nil))) (pa_cons (pe_tup (pa_cons (pv 4) (pa_cons pe_str pa_nil))) (pa_cons (pe_tup (pa_cons (pv 4) (pa_cons (pv 5) (pa_cons (pv 4) pa_nil)))) (pa_cons (pe_tup (pa_cons (pv 4) pa_nil)) (pa_cons (pe_tup pa_nil) (pa_cons pe_non (pa_cons pe_int pa_nil)))))))))))
      (pss_cons (ps_if (pt_cmpR (op_neE hr) (pe_lc (own := [("value", 10)]) rfl sc_others.nd (pi_list (pv 7)) (blkOk_by (N := n_others) (sc := fnScope s_others) (by decide +kernel)) (fun _ _ _ _ _ => (pg_name (i := 10) sc_others.nd rfl (.inl rfl))) (fun _ _ _ _ _ => pts_one (pt_cmpR LX.op_isnotBl (pe_c c_holds hr (by first | decide | omega) (by rfl) (pa_cons (pv 3) (pa_cons (pv 10) pa_nil))) pe_bl (nomark _))) (fun _ _ _ _ _ => pe_int)) (pe_lst pa_nil) (nomark _)) 
        (pss_one (ps_ret pe_bl)
        )
       pss_nil)
      (pss_cons (ps_set (i := 8) sc_others.nd rfl (.inl rfl) (pe_c c_any hr (by first | decide | omega) (by rfl) (pa_cons (pv 0) (pa_cons pe_int pa_nil))))
      (pss_one (ps_ret (pe_or (pe_callB (isiK K) (by rfl) T.m_isinstance PyProof.Rows.boot_isinstance (pa_cons (pv 8) (pa_cons (pe_bltn (v := .ty "tuple") (by rfl) T.m_tuple PyProof.Rows.boot_tuple rfl) pa_nil))) (pe_one (pe_cmpR LX.op_isBl (pe_c c_holds hr (by first | decide | omega) (by rfl) (pa_cons (pv 3) (pa_cons (pv 8) pa_nil))) pe_bl (nomark _)))))
      ))))))), ?_⟩
    refine ⟨_, rfl, _, rfl, b, sg, 4, rfl, hm, by decide, hb, fun one H1 o1 n1 hB1 => ⟨_, rfl, _, rfl, b, sg, 4, rfl, hm, by decide, hB1.2, fun other H2 o2 n2 hB2 => ⟨_, _, rfl, ?_⟩⟩⟩
    have hB := hB1.trans hB2
    have hp2 := hB.1 _ _ npb hp
    have hc2 := hc.bx hb hB
    clear hB1 hB2 hp hc
    refine ⟨_, rfl, _, rfl, by show 2 ≤ sizeLine; decide, fun t ht => ?_⟩
    have w3 := sm_new (o := .tup [.str (S one), .str (S other)]) ht
    have ht3 : (upd H2 t (.tup [.str (S one), .str (S other)])) t = some (.tup (txs [one, other])) := upd_same
    have hp3 := w3 _ _ hp2
    have hc3 := hc2.same w3
    have hB3 := hB.trans (bk_same w3 hB.2)
    generalize upd H2 t (.tup [.str (S one), .str (S other)]) = H3 at w3 ht3 hp3 hc3 hB3 ⊢
    clear ht w3 hp2 hc2 hB H2 H1
    refine ⟨t, rfl, ⟨_, SqT.of ht3⟩, fun D hD => ?_⟩
    refine lc_keep keep_same (walk_tup (K := K) (a := t) (xs := txs [one, other])) hD (by show 2 < sizeLine; decide) (fun j y => ∀ l, [one, other][j]? = some l → y = .str (S (app sg ims l))) (fun H r => SqT.of (r _ _ ht3)) (fun i x H4 H5 R hi r hy hR => ?_) (fun ys H4 hly hg r hDs => ?_)
    · obtain ⟨rfl, e1⟩ := hy
      obtain ⟨l, hl, rfl⟩ := txs_get e1
      have hll : Ov sg l ∧ l.length ≤ 4 := by
        rcases List.mem_cons.mp (List.mem_of_getElem? hl) with rfl | hlm
        · exact ⟨o1, n1⟩
        · rw [List.mem_singleton.mp hlm]; exact ⟨o2, n2⟩
      refine ⟨rfl, _, rfl, _, rfl, _, rfl, sg, p, ims, l, rfl, SqL.of (r _ _ hp3), g, hll.1, by have := hll.2; omega, fun H6 s6 => ?_⟩
      exact hR _ _ s6 fun l' hl' => by rw [hl] at hl'; rw [← Option.some.inj hl']
    have ey : ys = [.str (S (app sg ims one)), .str (S (app sg ims other))] := by
      have h2 : ys.length = 2 := hly
      match ys, h2, hg with
      | [y0, y1], _, hg => rw [hg 0 y0 rfl one rfl, hg 1 y1 rfl other rfl]
    subst ey
    have hp4 := r _ _ hp3
    have hc4 := hc3.same r
    have hB4 := hB3.trans (bk_same r hB3.2)
    clear hg hly hD hp3 hc3 hB3 r ht3 H3
    refine ⟨_, rfl, _, rfl, _, rfl, by show 2 ≤ sizeLine; decide, fun t2 ht2 => ?_⟩
    have w5 := sm_new (o := .tup [.str (S one), .str (S other)]) ht2
    refine ⟨a, .ref t2, .tuple [.str (S one), .str (S other)], sg, ims, rfl, hc4.same w5, g, dp_two upd_same, ok_two hm o1 o2 (by omega) (by omega), fun H5 s5 => ?_⟩
    have w45 := w5.trans s5
    have hp5 := w45 _ _ hp4
    have hD5 := w45 _ _ hDs
    have hc5 := hc4.same w45
    have hB5 := hB4.trans (bk_same w45 hB4.2)
    clear ht2 w5 s5 w45 hp4 hc4 hB4 hDs H4
    rw [holds_two o1 o2]
    generalize hbb : (decide (one ≠ other) && decide (app sg ims one = app sg ims other)) = bb
    refine ⟨_, .bool bb, 0, 1, rfl, .bl _, Fit.bl, by decide, by decide, rfl, ?_⟩
    refine ⟨_, rfl, _, rfl, rfl, _, rfl, ?_⟩
    refine and2 (A := fun Q => tOp rEq (tOp (rIxL K) (tVar 6) (tC (V.int 0))) (tOp (rIxL K) (tVar 6) (tC (V.int 1))) _ H5 Q) (d := decide (V.str (S (app sg ims one)) = V.str (S (app sg ims other)))) (fun Q q => ⟨_, rfl, D, _, 0, _, rfl, rfl, SqL.of hD5, rfl, _, rfl, D, _, 1, _, rfl, rfl, SqL.of hD5, rfl, rfl, q⟩) ?_
    have eb : (!decide (V.str (S one) = V.str (S other)) && decide (V.str (S (app sg ims one)) = V.str (S (app sg ims other)))) = bb := by
      rw [← hbb]
      have e1 : (!decide (V.str (S one) = V.str (S other))) = decide (one ≠ other) := by
        rw [Bool.eq_iff_iff]; simp [S]
      have e2 : decide (V.str (S (app sg ims one)) = V.str (S (app sg ims other))) = decide (app sg ims one = app sg ims other) := decide_eq_decide.mpr S_iff
      rw [e1, e2]
    rw [eb]
    refine ⟨_, .bool bb, 0, 1, rfl, .bl _, Fit.bl, by decide, by decide, rfl, rfl, _, rfl, iteN (by simp) ?_⟩
    clear eb hbb
    refine nxt ?_
    dsimp only
    unfold tSeq tAsg
    dsimp only
    refine rd_lstA (K := K) (B := []) (ds := [.list [.str (S one), .str (S other)], .tuple [.str (S one), .none], .tuple [.str (S one), .str "A"], .tuple [.str (S one), .str "?"], .tuple [.str (S one), .str (S other), .str (S one)], .tuple [.str (S one)], .tuple [], .none, .int 3]) (fun _ h => nomatch h) ?_ (by show 9 ≤ sizeLine; decide) fun q xs H6 s6 hq hq6 ha6 => gn1 ?_
    · have v1 : ∀ H, RD K [] (tVar 4) (.str (S one)) (((List.set (L2.start n_others [V.ref b, V.str (S sg), V.ref p, V.ref a]) 4 (some (V.str (S one)))).set 5 (some (V.str (S other)))).set 6 (some (V.ref D))) H := fun H => rd_var rfl (.str _)
      have v2 : ∀ H, RD K [] (tVar 5) (.str (S other)) (((List.set (L2.start n_others [V.ref b, V.str (S sg), V.ref p, V.ref a]) 4 (some (V.str (S one)))).set 5 (some (V.str (S other)))).set 6 (some (V.ref D))) H := fun H => rd_var rfl (.str _)
      repeat (first | exact rd_nil | exact rd_non | exact rd_int | exact rd_str | exact v1 _ | exact v2 _ | refine rd_cons ?_ fun _ _ _ => ?_ | refine rd_lst ?_ (by first | (show 2 ≤ sizeLine; decide)) | refine rd_tup ?_ (by first | (show 0 ≤ sizeLine; decide) | (show 1 ≤ sizeLine; decide) | (show 2 ≤ sizeLine; decide) | (show 3 ≤ sizeLine; decide)))
    rw [wo_nil] at ha6
    have hp6 := s6 _ _ hp5
    have hc6 := hc5.same s6
    have hB6 := hB5.trans (bk_same s6 hB5.2)
    have hlen := dpa_len ha6
    have hodd := holds_odd (one := one) (other := other) (ims := ims) hm
    have hok := ok_odd (one := one) (other := other) hm o1 o2 (by omega) (by omega)
    generalize hds : [PyData.list [.str (S one), .str (S other)], .tuple [.str (S one), .none], .tuple [.str (S one), .str "A"], .tuple [.str (S one), .str "?"], .tuple [.str (S one), .str (S other), .str (S one)], .tuple [.str (S one)], .tuple [], .none, .int 3] = ds at ha6 hlen hodd hok
    have h9 : ds.length = 9 := by rw [← hds]; rfl
    refine ⟨_, rfl, q, rfl, ⟨_, SqL.of hq6⟩, fun D2 hD2 => ?_⟩
    refine lc_keepF keep_same (walk_list (K := K) (a := q) (xs := xs)) hD2 (by rw [hlen, h9]; decide) (fun _ => false) (fun _ _ _ => True) (fun H r => SqL.of (r _ _ hq6)) (fun _ _ _ _ _ _ _ => trivial) (fun _ _ _ _ _ _ _ _ => trivial) (fun j x Hx Hy acc N R hj sx hDa hy hR hN => ?_) (fun ys Hz hly hg sz hDs => ?_)
    · obtain ⟨rfl, e1⟩ := hy
      obtain ⟨d, hd, hdp⟩ := dpa_at ha6 j x e1
      have hdm := List.mem_of_getElem? hd
      refine ⟨rfl, _, rfl, _, rfl, a, x, d, sg, ims, rfl, hc6.same sx, g, dp_same sx _ _ hdp, hok d hdm, fun H7 s7 => ?_⟩
      rw [hodd d hdm]
      refine ⟨false, false, rfl, rfl, _, rfl, iteN rfl ?_⟩
      exact hN rfl _ s7
    · rw [none_taken] at hly
      obtain rfl := List.length_eq_zero_iff.mp hly
      have hc7 := hc6.same sz
      have hB7 := hB6.trans (bk_same sz hB6.2)
      refine ⟨by show 0 ≤ sizeLine; decide, fun e he => ?_⟩
      have w8 := sm_new (o := .lst []) he
      refine ⟨D2, e, [], rfl, rfl, w8 _ _ hDs, upd_same, _, rfl, iteN rfl ?_⟩
      have hc8 := hc7.same w8
      have hB8 := hB7.trans (bk_same w8 hB7.2)
      generalize upd Hz e (.lst []) = H8 at w8 hc8 hB8 ⊢
      clear he hDs hc7 hB7 sz hly hg hc6 hB6 hq6 ha6 hlen hodd hok hds h9 hD2 hp6 s6 hq
      refine ⟨_, rfl, 5, by decide, b, [b], rfl, hB8.2, List.mem_cons_self, fun c hc e => ?_, fun v d H9 hB9 hdp hok => ?_⟩
      · rw [List.mem_singleton.mp hc] at e
        obtain ⟨o, ho, _⟩ := hB8.2
        rw [ho] at e; cases e
      have hc9 := hc8.bx hB8.2 hB9
      have hB10 := hB8.trans hB9
      have hdp9 := dp_same wo_sub _ _ hdp
      have rest : ∀ {kt : PySem.W.kitOne K (.type (tyN d)) (.type "tuple") = some false} (hn : ∀ ds, d ≠ .tuple ds), holdsD sg ims d = false := fun hn => tup_no hn
      have ty := dp_ty hdp9
      have fin : ∀ H10, Same H9 H10 → Q (.bl true) H10 := fun H10 s10 => k H10 (hB10.trans (bk_same s10 hB10.2))
      have call : holdsD sg ims d = false → tOp (fun x y H Q => ∃ a b, x = V.bl a ∧ y = V.bl b ∧ Q (V.bl (decide (a = b))) H) (tCall (spHolds K C) [] C8.E0 (tCons (tVar 3) (tCons (tVar 8) tNil))) (tC (V.bl false)) (((((List.set (L2.start n_others [V.ref b, V.str (S sg), V.ref p, V.ref a]) 4 (some (V.str (S one)))).set 5 (some (V.str (S other)))).set 6 (some (V.ref D))).set 7 (some (V.ref q))).set 8 (some v)) H9 Q := fun e =>
        ⟨_, rfl, _, rfl, a, v, d, sg, ims, rfl, hc9, g, hdp9, hok, fun H10 s10 => ⟨false, false, by rw [e], rfl, fin H10 s10⟩⟩
      cases d with
      | tuple ds => exact ⟨_, rfl, _, _, _, _, true, rfl, .ty _, ty, kit_ty (a := "tuple") (by decide +kernel), true, rfl, iteT (fin H9 (Same.refl _))⟩
      | none => exact ⟨_, rfl, _, _, _, _, false, rfl, .ty _, ty, kit_ty (a := "NoneType") (by decide +kernel), false, rfl, iteN rfl (call rfl)⟩
      | bool x => exact ⟨_, rfl, _, _, _, _, false, rfl, .ty _, ty, kit_ty (a := "bool") (by decide +kernel), false, rfl, iteN rfl (call rfl)⟩
      | int x => exact ⟨_, rfl, _, _, _, _, false, rfl, .ty _, ty, kit_ty (a := "int") (by decide +kernel), false, rfl, iteN rfl (call rfl)⟩
      | str x => exact ⟨_, rfl, _, _, _, _, false, rfl, .ty _, ty, kit_ty (a := "str") (by decide +kernel), false, rfl, iteN rfl (call rfl)⟩
      | list x => exact ⟨_, rfl, _, _, _, _, false, rfl, .ty _, ty, kit_ty (a := "list") (by decide +kernel), false, rfl, iteN rfl (call rfl)⟩
      | dict x => cases hdp9
end
end Toy
set_option maxHeartbeats 2000000
namespace Toy
open PySem L2 C8 SX LX K4
local macro_rules | `(tactic| walk_at "c") => `(tactic| refine And.intro (by first | (show (0 : Int) < _; omega) | exact Or.inr ⟨by decide, by decide⟩ | exact Or.inl ⟨by decide, by decide⟩ | (exact ⟨by omega, by omega⟩)) ?_)
local macro_rules | `(tactic| walk_at "s1") => `(tactic| first | refine ⟨_, rfl, ?_⟩ | refine ⟨_, _, rfl, rfl, ?_⟩ | refine .inl ⟨_, rfl, ?_⟩ | walk_at "c")
local macro_rules | `(tactic| walk_at "ix") => `(tactic| refine ⟨_, _, _, _, rfl, rfl, SqL.of (by first | assumption | exact upd_same), rfl, ?_⟩)
local macro_rules | `(tactic| walk_at "s") => `(tactic| repeat (walk_at "s1"))
def DueOk (H : Hp) (sg : List Nat) (ims : List (List Nat)) (L : Bool) (v : V) : Prop := (L = true ∧ ¬ Full ims ∧ v = .non) ∨
  (L = false ∧ Full ims ∧ ∃ (t : Addr) (xs : List (List Nat)), v = .ref t ∧ H t = some (.tup (txs xs)) ∧ xs.Pairwise (· < ·) ∧ ∀ x, x ∈ xs ↔ Rest sg ims x)
theorem menu_sg {sg : List Nat} (h : Menu sg) : Sg sg := by
  rcases menu_cases h with rfl | rfl | rfl | rfl <;> exact ⟨by decide, by decide, by decide, by decide⟩
theorem rows_ims {sg : List Nat} {ims : List (List Nat)} (h : ∀ l ∈ ims, Ov sg l) : rowsO sg (.list (ims.map fun l => .str (S l))) = true := by
  show ((ims.map fun l => PyData.str (S l)).all fun x => rowO sg (txtO x)) = true
  rw [List.all_eq_true]
  intro x hx
  obtain ⟨l, hl, rfl⟩ := List.mem_map.mp hx
  show rowO sg (txtO (.str (S l))) = true
  rw [txt_S]
  exact decide_eq_true (h l hl)
theorem map_S_inj : ∀ {xs ys : List (List Nat)}, (xs.map fun l => PyData.str (S l)) = ys.map (fun l => PyData.str (S l)) → xs = ys
  | [], [], _ => rfl
  | [], _ :: _, h => by cases h
  | _ :: _, [], h => by cases h
  | x :: xs, y :: ys, h => by
    rw [List.map_cons, List.map_cons, List.cons.injEq] at h
    have e : x = y := by simpa [S] using PyData.str.inj h.1
    rw [e, map_S_inj h.2]
theorem paired_get {γ : Type} {F : Addr → γ → Prop} {g : List Nat → γ} : ∀ {ps : List Addr} {rs : List (List Nat)}, ps.length = rs.length → (∀ (i : Nat) (p : Addr) (l : List Nat), ps[i]? = some p → rs[i]? = some l → F p (g l)) → Paired F ps (rs.map g)
  | [], [], _, _ => .nil
  | [], _ :: _, h, _ => by simp at h
  | _ :: _, [], h, _ => by simp at h
  | p :: ps, l :: rs, h, k => .cons (k 0 p l rfl rfl) (paired_get (by simpa using h) fun i q m h1 h2 => k (i + 1) q m h1 h2)
theorem refs_of : ∀ {ys : List V}, (∀ (j : Nat) y, ys[j]? = some y → ∃ t, y = .ref t) → ∃ ps : List Addr, ys = ps.map V.ref
  | [], _ => ⟨[], rfl⟩
  | y :: ys, h => by
    obtain ⟨t, rfl⟩ := h 0 y rfl
    obtain ⟨ps, rfl⟩ := refs_of (ys := ys) fun j z e => h (j + 1) z e
    exact ⟨t :: ps, rfl⟩
theorem pair_mem : ∀ {l : List (List Nat)}, l.Nodup → l.Pairwise fun a b => a ∈ l ∧ b ∈ l ∧ a ≠ b
  | [], _ => .nil
  | a :: l, h => by
    rw [List.nodup_cons] at h
    refine .cons (fun b hb => ⟨List.mem_cons_self, List.mem_cons_of_mem _ hb, fun e => h.1 (e ▸ hb)⟩) ?_
    exact (pair_mem h.2).imp fun ⟨h1, h2, h3⟩ => ⟨List.mem_cons_of_mem _ h1, List.mem_cons_of_mem _ h2, h3⟩
theorem and3 {c : Bool} {A B : Prop} (hA : c = true → A) (hB : B) : if c = true then A else B := by
  cases c with
  | true => exact hA rfl
  | false => exact hB
section
variable {P : Program} {w : World} {K : PySem.W.Frag} {mg : Str → Option Value} {base : Heap}
theorem make_use {C CI p q dx : Addr} {H : Hp} {R : VK} {E : XK} {sg : List Nat} {ims : List (List Nat)} (g : Gd sg ims) (hp : H p = some (.lst (txs ims))) (hq : H q = none) (hdx : H dx = none) (nx : dx ≠ q) (k : ∀ (H' : Hp), Same H H' → Chg K C H' q sg ims → R .non H') :
    spInitA K C CI (.ref q :: [.str (S sg), .ref p]) (upd (upd H dx (.own q)) q (.ins C dx [])) R E := by
  have s1 : Same H (upd (upd H dx (.own q)) q (.ins C dx [])) := fun b o e => by rw [upd_ne (ne_of_none e hq), upd_ne (ne_of_none e hdx)]; exact e
  have hsg := menu_sg g.mn
  have hdue : dueD (.str (S sg)) (.list (ims.map fun l => .str (S l))) = none := due_none hsg ⟨rows_ims fun l hl => (g.im.2 l hl).1, by show (ims.map _).length = _; rw [List.length_map]; exact g.im.1⟩
  refine ⟨q, dx, _, _, _, _, rfl, upd_same, .str (S sg), dp_same s1 _ _ (.lst (SqL.of hp) (dp_strs ims)), okD_S (by have := hsg.2.2.1; omega) (fun c hc => by have := menu_small g.mn c hc; omega), ?_, fun wd hw => (by rw [hdue] at hw; cases hw), fun sg' ims' _ ex1 _ ex2 _ H8 hk hch => ?_⟩
  · refine okD_lst (by rw [List.length_map, g.im.1]; have := hsg.2.2.1; omega) fun d hd => ?_
    obtain ⟨l, hl, rfl⟩ := List.mem_map.mp hd
    exact okD_S (by have := (g.im.2 l hl).2; omega) (ov_sm g.mn (g.im.2 l hl).1)
  · have es : sg = sg' := by simpa [S] using ex1
    have ei := map_S_inj (Option.some.inj ex2)
    subst es ei
    exact k H8 (fun c o e => hk c o (ne_of_none e hq) (s1 _ _ e)) hch
abbrev s_law : Stmt := top 35
abbrev n_law : List Str := ["script", "k", "box", "turn", "signs", "images", "made", "is_loose", "due", "is_good", "some", "known", "twins", "row", "pair"]
theorem sc_law : FnScope n_law ["script"] (fnScope s_law) := fnScope_by (by decide +kernel)
def spLaw (K : PySem.W.Frag) : Sp := fun vs H Q _ => ∃ (a : Addr) (ns : List Int), vs = [.ref a] ∧ SqL K H a (ns.map V.int) ∧ ns.length ≤ 63 ∧ ∀ H', Q (.bl true) H'
theorem ok_law {C CI : Addr} (T : BT mg) (CH : CC K C)
  (c_seed : Cal P w K mg base 1 "_law_seed" (spSeed K) []) (c_signs : Cal P w K mg base 3 "_law_signs" spSigns []) (c_images : Cal P w K mg base 4 "_law_images" spImages []) (c_Change : MakX P w K mg base 4 "Change" C (spInitA K C CI))
  (c_lrests : Cal P w K mg base 2 "_law_rests" (spLRests K) []) (c_rests : Cal P w K mg base 3 "rests" (spRests K C) []) (c_clear : Cal P w K mg base 4 "is_clear" (spClear K C) []) (c_told : Cal P w K mg base 4 "_law_told_right" (spTold K C) [])
  (c_rows : Cal P w K mg base 1 "_law_rows" spRows []) (c_image : Cal P w K mg base 1 "_law_image" (spImage K) []) (c_holds : Cal P w K mg base 3 "clash_holds" (spHolds K C) []) (c_others : CalG P w K mg base 10 "_law_others_right" (spOthers K C))
  {f : Addr} {fd : FuncData} (F : Def K mg "law" s_law f fd) : FnG P w K mg base 11 f fd ["script"] (spLaw K) := by
  refine fnG0 F.fn sc_law (fun vs H Q E h => ?_) (fun cdv A outer s H vs Q E gd hr h => ?_)
  · obtain ⟨a, ns, rfl, _⟩ := h; rfl
  · obtain ⟨a, ns, rfl, ha, hl, kk⟩ := h
    refine ⟨_, (pss_cons (ps_for PassesOwn.never rfl (pi_range1 (by rfl) T.m_range (pa_cons (pe_callB (call_max2 rfl) (by rfl) T.m_max PyProof.Rows.boot_max (pa_cons pe_int (pa_cons (pe_callB (call_min2 rfl) (by rfl) T.m_min PyProof.Rows.boot_min (pa_cons pe_int (pa_cons (pe_callB (lenK K) (by rfl) T.m_len PySem.boot_len (pa_cons (pv 0) pa_nil)) pa_nil))) pa_nil))) pa_nil)) (pg_name (i := 1) sc_law.nd rfl (.inl rfl)) 
        (pss_cons (ps_set (i := 2) sc_law.nd rfl (.inl rfl) (pe_c c_seed hr (by first | decide | omega) (by rfl) (pa_cons (pv 0) (pa_cons (pv 1) pa_nil))))
        (pss_one (ps_for PassesOwn.never rfl (pi_range1 (by rfl) T.m_range (pa_cons pe_int pa_nil)) (pg_name (i := 3) sc_law.nd rfl (.inl rfl)) 
          (pss_cons (ps_set (i := 4) sc_law.nd rfl (.inr rfl) (pe_c c_signs hr (by first | decide | omega) (by rfl) (pa_cons (pv 2) pa_nil)))
          (pss_cons (ps_set (i := 5) sc_law.nd rfl (.inr rfl) (pe_c c_images hr (by first | decide | omega) (by rfl) (pa_cons (pv 2) (pa_cons (pv 4) (pa_cons pe_int pa_nil)))))
          (pss_cons (ps_asg (pe_tup (pa_cons (pe_mkX c_Change takes_none5 hr (by decide) (by rfl) (pa_cons (pv 4) (pa_cons (pv 5) pa_nil))) (pa_cons (pe_cmpR (inK K) pe_str (pv 5) rfl) pa_nil))) (tupK K 2 (pgs_cons (pg_name (i := 6) sc_law.nd rfl (.inr rfl)) (pgs_cons (pg_name (i := 7) sc_law.nd rfl (.inl rfl)) pgs_nil))))
          (C8.pss_cut (ps_set (i := 8) sc_law.nd rfl (.inl rfl) (pe_ifExp (pt_val (pv 7)) pe_non (pe_callTy (tupleK K) (by rfl) T.m_tuple PyProof.Rows.boot_tuple (pa_cons (pe_c c_lrests hr (by first | decide | omega) (by rfl) (pa_cons (pv 5) pa_nil)) pa_nil))))
          (C8.pss_cut (ps_if (pt_cmpR op_ne (pe_callB (call_reprV gd hr K) (by rfl) T.m_repr PyProof.Rows.boot_repr (pa_cons (pe_c c_rests hr (by first | decide | omega) (by rfl) (pa_cons (pv 6) pa_nil)) pa_nil)) (pe_callB (call_reprV gd hr K) (by rfl) T.m_repr PyProof.Rows.boot_repr (pa_cons (pv 8) pa_nil)) (nomark _)) 
            (pss_one (ps_ret pe_bl)
            )
           pss_nil)
          (C8.pss_cut (ps_set (i := 9) sc_law.nd rfl (.inl rfl) (pe_and (pe_not (pv 7)) (pe_one (pe_cmpR (notInK K) pe_str (pv 8) rfl))))
          (pss_cons (ps_if (PW.pt (pw_or (pt_cmpR op_ne (pe_callB (call_reprV gd hr K) (by rfl) T.m_repr PyProof.Rows.boot_repr (pa_cons (pe_c c_clear hr (by first | decide | omega) (by rfl) (pa_cons (pv 6) pa_nil)) pa_nil)) (pe_callB (call_reprV gd hr K) (by rfl) T.m_repr PyProof.Rows.boot_repr (pa_cons (pv 9) pa_nil)) (nomark _)) (pw_or1 (pt_not (pt_val (pe_c c_told hr (by first | decide | omega) (by rfl) (pa_cons (pv 4) (pa_cons (pv 5) (pa_cons (pv 6) (pa_cons (pv 9) pa_nil)))))))))) 
            (pss_one (ps_ret pe_bl)
            )
           pss_nil)
          (pss_cons (ps_set (i := 10) sc_law.nd rfl (.inl rfl) (pe_c c_rows hr (by first | decide | omega) (by rfl) (pa_cons (pv 4) (pa_cons pe_int pa_nil))))
          (pss_cons (ps_set (i := 11) sc_law.nd rfl (.inr rfl) (pe_callTy (call_dictP rfl) (by rfl) T.m_dict PyProof.Rows.boot_dict (pa_cons (pe_lc (own := [("row", 13)]) rfl sc_law.nd (pi_list (pv 10)) (blkOk_by (N := n_law) (sc := fnScope s_law) (by decide +kernel)) (fun _ _ _ _ _ => (pg_name (i := 13) sc_law.nd rfl (.inl rfl))) (fun _ _ _ _ _ => pts_nil) (fun _ _ _ _ _ => (pe_tup (pa_cons (pe_c c_image hr (by first | decide | omega) (by rfl) (pa_cons (pv 4) (pa_cons (pv 5) (pa_cons (pv 13) pa_nil)))) (pa_cons (pv 13) pa_nil))))) pa_nil)))
          (C8.pss_cut (ps_if (PW.pt (pw_and (pt_val (pv 9)) (pw_and1 (pt_cmpR op_ne (pe_callB call_lenD (by rfl) T.m_len PySem.boot_len (pa_cons (pv 11) pa_nil)) (pe_callB (lenK K) (by rfl) T.m_len PySem.boot_len (pa_cons (pv 10) pa_nil)) (nomark _))))) 
            (pss_one (ps_ret pe_bl)
            )
           pss_nil)
          (pss_cons (ps_setLc (i := 12) (own := [("row", 13)]) rfl sc_law.nd rfl rfl rfl (pi_list (pv 10)) (blkOk_by (N := n_law) (sc := fnScope s_law) (by decide +kernel)) (fun _ _ _ _ _ => (pg_name (i := 13) sc_law.nd rfl (.inl rfl))) (fun _ _ _ _ _ => pts_nil) (fun _ _ _ _ _ => (pe_tup (pa_cons (pv 13) (pa_cons (pe_dget (hu_of hr) (pv 11) (pe_c c_image hr (by first | decide | omega) (by rfl) (pa_cons (pv 4) (pa_cons (pv 5) (pa_cons (pv 13) pa_nil)))) (fun _ _ => rfl)) pa_nil)))))
          (pss_cons (ps_if (pt_cmpR (op_neE hr) (pe_lc (own := [("pair", 14)]) rfl sc_law.nd (pi_list (pv 12)) (blkOk_by (N := n_law) (sc := fnScope s_law) (by decide +kernel)) (fun _ _ _ _ _ => (pg_name (i := 14) sc_law.nd rfl (.inl rfl))) (fun _ _ _ _ _ => pts_one (pt_cmpR op_ne (pe_c c_holds hr (by first | decide | omega) (by rfl) (pa_cons (pv 6) (pa_cons (pv 14) pa_nil))) (pe_cmpR op_ne (pe_ix (ixt K) (pv 14) pe_int (fun _ _ => rfl)) (pe_ix (ixt K) (pv 14) pe_int (fun _ _ => rfl)) (nomark _)) (nomark _))) (fun _ _ _ _ _ => pe_int)) (pe_lst pa_nil) (nomark _)) 
            (pss_one (ps_ret pe_bl)
            )
           pss_nil)
          (pss_one (ps_if (pt_not (pt_val (pe_cG c_others gd hr (by first | decide | omega) (by rfl) (pa_cons (pv 2) (pa_cons (pv 4) (pa_cons (pv 5) (pa_cons (pv 6) pa_nil))))))) 
            (pss_one (ps_ret pe_bl)
            )
           pss_nil)
          ))))))))))))))
        )))
      (pss_one (ps_ret pe_bl)
      )), ?_⟩
    refine ⟨_, rfl, a, _, rfl, .inl ha, _, _, rfl, _, _, rfl, _, rfl, ?_⟩
    rw [List.length_map]
    have hM : 0 ≤ (if (if (ns.length : Int) < 3 then (ns.length : Int) else 3) > 1 then (if (ns.length : Int) < 3 then (ns.length : Int) else 3) else 1) ∧ (if (if (ns.length : Int) < 3 then (ns.length : Int) else 3) > 1 then (if (ns.length : Int) < 3 then (ns.length : Int) else 3) else 1) ≤ 3 := by
      split <;> split <;> omega
    generalize (if (if (ns.length : Int) < 3 then (ns.length : Int) else 3) > 1 then (if (ns.length : Int) < 3 then (ns.length : Int) else 3) else 1) = M at hM ⊢
    refine ⟨by omega, by omega, ?_⟩
    refine for_it (walk_range (lo := 0)) (fun i σ H' => (∃ s1 s2 s3 s4 s5 s6 s7 s8 s9 s10 s11 s12 : Option V, σ = [some (.ref a), s1, s2, s3, s4, s5, s6, s7, s8, s9, s10, s11, s12, none, none]) ∧ Same H H')
      ⟨⟨_, _, _, _, _, _, _, _, _, _, _, _, rfl⟩, Same.refl _⟩ (fun _ _ _ _ _ => trivial) ?_ ?_
    · rintro i x σ H1 H1' hi ⟨⟨s1, s2, s3, s4, s5, s6, s7, s8, s9, s10, s11, s12, rfl⟩, e1⟩ ⟨rfl, rfl⟩
      clear hi hM
      refine ⟨_, rfl, _, rfl, a, i, ns, by show [V.ref a, V.int (0 + (i : Int))] = _; rw [Int.zero_add], e1.seq ha, hl, fun b H2 h2 nb hB => ?_⟩
      have e2 := e1.trans h2
      have nbH : H b = none := e1.free nb
      refine ⟨4, rfl, by decide, by decide, ?_⟩
      refine for_it (walk_range (lo := 0)) (fun j σ H' => (∃ s4 s5 s6 s7 s8 s9 s10 s11 s12 s3 : Option V, σ = [some (.ref a), some (.int (0 + (i : Int))), some (.ref b), s3, s4, s5, s6, s7, s8, s9, s10, s11, s12, none, none]) ∧ Same H H' ∧ BoxAt b H')
        ⟨⟨_, _, _, _, _, _, _, _, _, _, rfl⟩, e2, hB⟩ (fun _ _ _ _ _ => trivial) ?_ ?_
      · clear e1 e2 h2 nb hB s3 s4 s5 s6 s7 s8 s9 s10 s11 s12
        rintro j x σ H3 H3' hj ⟨⟨s4, s5, s6, s7, s8, s9, s10, s11, s12, s3, rfl⟩, e3, hB3⟩ ⟨rfl, rfl⟩
        have bxs : ∀ {Ha Hb : Hp}, Same H Ha → Bx b Ha Hb → Same H Hb := fun s1 s2 c o e => s2.1 c o (ne_of_none e nbH) (s1 c o e)
        refine ⟨_, rfl, b, rfl, hB3, fun sg H5 hm hB5 => ?_⟩
        have e5 := bxs e3 hB5
        refine ⟨_, rfl, _, rfl, b, sg, 4, rfl, hm, by decide, by decide, hB5.2, fun p ims H6 him hB6 hpn hp6 => ?_⟩
        have e6 := bxs e5 hB6
        have bx6 := hB6.2
        have npb : p ≠ b := box_ne hB5.2 hpn
        have g : Gd sg ims := ⟨hm, him⟩
        clear hB6 hB5 hpn e5 e3 hB3
        refine ⟨_, rfl, _, rfl, fun q dx hq hdx nx => ?_⟩
        refine make_use g hp6 hq hdx nx fun H7 w7 hch => ⟨rfl, ?_⟩
        have hp7 := w7 _ _ hp6
        have e7 := e6.trans w7
        have bx7 := (bk_same w7 bx6).2
        clear hdx nx hq hp6 w7 e6 bx6 him
        rw [s_nil]
        refine ⟨_, rfl, p, _, rfl, .inl (SqL.of hp7), rfl, flat_txs ims, ?_⟩
        rw [show (if false = true then !inV (.str (S [])) (txs ims) else inV (.str (S [])) (txs ims)) = decide (([] : List Nat) ∈ ims) from inV_txs]
        refine ⟨by show 2 ≤ sizeLine; decide, fun t ht => ?_⟩
        have w8 := sm_new (o := .tup [.ref q, .bl (decide (([] : List Nat) ∈ ims))]) ht
        have ht8 : (upd H7 t (.tup [.ref q, .bl (decide (([] : List Nat) ∈ ims))])) t = some (.tup [.ref q, .bl (decide (([] : List Nat) ∈ ims))]) := upd_same
        have hp8 := w8 _ _ hp7
        have hc8 := hch.same w8
        have e8 := e7.trans w8
        have bx8 := (bk_same w8 bx7).2
        generalize upd H7 t (.tup [.ref q, .bl (decide (([] : List Nat) ∈ ims))]) = H8 at ht8 hp8 hc8 e8 bx8 ⊢
        refine ⟨t, _, rfl, .inl (.inl ht8), rfl, _, _, rfl, _, _, rfl, rfl, ?_⟩
        clear w8 ht8 ht hp7 hch e7 bx7 H7 t
        generalize hL : decide (([] : List Nat) ∈ ims) = L
        refine ⟨fun σ H' => ∃ (v8 : V), σ = [some (.ref a), some (.int (0 + (i : Int))), some (.ref b), some (.int (0 + (j : Int))), some (.str (S sg)), some (.ref p), some (.ref q), some (.bl L), some v8, s9, s10, s11, s12, none, none] ∧
          Same H H' ∧ BoxAt b H' ∧ H' p = some (.lst (txs ims)) ∧ Chg K C H' q sg ims ∧ DueOk H' sg ims L v8, ?_, ?_⟩
        · refine ⟨_, rfl, _, rfl, ?_⟩
          rcases full_or ims with ⟨e, hf⟩ | ⟨e, hf⟩
          · rw [hL] at e
            subst e
            refine iteB rfl ?_
            exact ⟨_, rfl, e8, bx8, hp8, hc8, .inl ⟨rfl, hf, rfl⟩⟩
          · rw [hL] at e
            subst e
            refine iteN rfl ?_
            refine ⟨_, rfl, p, sg, ims, rfl, hp8, g, hf, fun u xs H9 s9' hu hu9 hpw hmem => ?_⟩
            refine ⟨u, _, rfl, .inl ⟨SqL.of hu9, fun l hl => ?_⟩⟩
            have s10' := s9'.trans (sm_new (o := .tup (txs xs)) hl)
            exact ⟨_, rfl, e8.trans s10', (bk_same s10' bx8).2, s10' _ _ hp8, hc8.same s10', .inr ⟨rfl, hf, l, xs, rfl, upd_same, hpw, hmem⟩⟩
        clear e8 bx8 hp8 hc8 hL H8
        rintro σ H8 ⟨v8, rfl, e8, bx8, hp8, hc8, hdue⟩
        refine ⟨fun σ H' => σ = [some (.ref a), some (.int (0 + (i : Int))), some (.ref b), some (.int (0 + (j : Int))), some (.str (S sg)), some (.ref p), some (.ref q), some (.bl L), some v8, s9, s10, s11, s12, none, none] ∧
          Same H H' ∧ BoxAt b H' ∧ H' p = some (.lst (txs ims)) ∧ Chg K C H' q sg ims ∧ DueOk H' sg ims L v8, ?_, ?_⟩
        · refine ⟨_, rfl, q, sg, ims, rfl, hc8, g, fun hf H9 s9' => ?_, fun hf u xs H9 s9' hu hpw hxl hmem => ?_⟩
          · refine ⟨_, .none, 0, 1, rfl, .non, Fit.non, by decide, by decide, rfl, ?_⟩
            rcases hdue with ⟨rfl, _, rfl⟩ | ⟨_, hf2, _⟩
            · refine ⟨_, rfl, _, .none, 0, 1, rfl, .non, Fit.non, by decide, by decide, rfl, rfl, _, rfl, iteN (by simp) ?_⟩
              exact ⟨rfl, e8.trans s9', (bk_same s9' bx8).2, s9' _ _ hp8, hc8.same s9', .inl ⟨rfl, hf, rfl⟩⟩
            · exact absurd hf2 hf
          · rcases hdue with ⟨_, hf2, _⟩ | ⟨rfl, _, u2, xs2, rfl, hu2, hpw2, hmem2⟩
            · exact absurd hf hf2
            · have exs : xs = xs2 := rise_eq hpw hpw2 fun x => (hmem x).trans (hmem2 x).symm
              subst exs
              have hfit : Fit 2 50 (.tuple (xs.map fun l => .str (S l))) := fit_t (m := 10) (n := 4) (fun l hl => rest_small g hf ((hmem l).mp hl)) (fun l hl => rest_len g hf ((hmem l).mp hl)) hxl
              refine ⟨_, .tuple (xs.map fun l => .str (S l)), 2, 50, rfl, .tup (SqT.of hu) (dp_strs xs), hfit, by decide, by decide, rfl, ?_⟩
              refine ⟨_, rfl, _, .tuple (xs.map fun l => .str (S l)), 2, 50, rfl, .tup (SqT.of (s9' _ _ hu2)) (dp_strs xs), hfit, by decide, by decide, rfl, rfl, _, rfl, iteN (by simp) ?_⟩
              exact ⟨rfl, e8.trans s9', (bk_same s9' bx8).2, s9' _ _ hp8, hc8.same s9', .inr ⟨rfl, hf, u2, xs, rfl, s9' _ _ hu2, hpw, hmem⟩⟩
        clear e8 bx8 hp8 hc8 hdue H8
        rintro σ H8 ⟨rfl, e8, bx8, hp8, hc8, hdue⟩
        refine ⟨fun σ H' => ∃ (gb : Bool), σ = [some (.ref a), some (.int (0 + (i : Int))), some (.ref b), some (.int (0 + (j : Int))), some (.str (S sg)), some (.ref p), some (.ref q), some (.bl L), some v8, some (.bl gb), s10, s11, s12, none, none] ∧
          Same H H' ∧ BoxAt b H' ∧ H' p = some (.lst (txs ims)) ∧ Chg K C H' q sg ims ∧ (gb = true ↔ Clear sg ims), ?_, ?_⟩
        · refine ⟨_, rfl, _, rfl, _, rfl, ?_⟩
          rcases hdue with ⟨rfl, hf, rfl⟩ | ⟨rfl, hf, u2, xs, rfl, hu2, hpw, hmem⟩
          · refine iteN rfl ?_
            exact ⟨false, rfl, e8, bx8, hp8, hc8, (fun h => nomatch h), fun cl => absurd cl.1 hf⟩
          · refine iteB rfl ?_
            refine ⟨_, rfl, u2, _, rfl, .inr (SqT.of hu2), rfl, flat_txs xs, ?_⟩
            rw [show (if true = true then !inV (.str (S [])) (txs xs) else inV (.str (S [])) (txs xs)) = !decide (([] : List Nat) ∈ xs) from congrArg not inV_txs]
            refine ⟨_, rfl, e8, bx8, hp8, hc8, ?_⟩
            rw [Bool.not_eq_true', decide_eq_false_iff_not, hmem []]
            exact ⟨fun h => ⟨hf, h⟩, fun h => h.2⟩
        clear e8 bx8 hp8 hc8 hdue H8
        rintro σ H8 ⟨gb, rfl, e8, bx8, hp8, hc8, hgb⟩
        refine ⟨_, rfl, q, sg, ims, rfl, hc8, g, fun b2 H9 w9 hb2 => ?_⟩
        have eb : b2 = gb := by
          rw [Bool.eq_iff_iff]; exact hb2.trans hgb.symm
        subst eb
        have hp9 := w9 _ _ hp8
        have hc9 := hc8.same w9
        have e9 := e8.trans w9
        have bx9 := (bk_same w9 bx8).2
        clear e8 bx8 hp8 hc8 w9 hb2 H8
        refine ⟨_, .bool b2, 0, 1, rfl, .bl _, Fit.bl, by decide, by decide, rfl, ?_⟩
        refine ⟨_, rfl, _, .bool b2, 0, 1, rfl, .bl _, Fit.bl, by decide, by decide, rfl, rfl, _, rfl, iteN (by simp) ?_⟩
        refine ⟨_, rfl, _, rfl, _, rfl, _, rfl, sg, p, q, ims, b2, rfl, hp9, hc9, g, hgb, fun H10 w10 => ⟨_, rfl, iteN rfl ?_⟩⟩
        have hp10 := w10 _ _ hp9
        have hc10 := hc9.same w10
        have e10 := e9.trans w10
        have bx10 := (bk_same w10 bx9).2
        clear e9 bx9 hp9 hc9 w10 H9
        refine nxt ?_
        dsimp only
        refine ⟨_, rfl, sg, rfl, hm, fun p2 H11 w11 hn2 hp2 => ?_⟩
        have h3 := (menu_len hm).2
        have l121 := upt_len h3 (n := 4) (Nat.le_refl 4)
        have hmem := fun l (h : l ∈ upt sg 4) => upt_mem (sg := sg) h
        have hnd := upt_nodup (menu_nodup hm) 4
        generalize hrs : upt sg 4 = rs at hp2 l121 hmem hnd
        clear hrs
        have hp11 := w11 _ _ hp10
        have hc11 := hc10.same w11
        have e11 := e10.trans w11
        have bx11 := (bk_same w11 bx10).2
        clear hn2 e10 bx10 hp10 hc10 w11 H10
        refine ⟨_, rfl, p2, rfl, ⟨_, SqL.of hp2⟩, fun D hD => ?_⟩
        refine lc_keepH keep_same (walk_list (K := K) (a := p2) (xs := txs rs)) hD (by rw [txs_len]; exact small1000 (by omega)) (fun j y H => ∃ t, y = .ref t ∧ ∀ l, rs[j]? = some l → H t = some (.tup [.str (S (app sg ims l)), .str (S l)])) (fun H r => SqL.of (r _ _ hp2))
          (fun _ _ _ _ _ r ⟨t, e, h⟩ => ⟨t, e, fun l hl => r _ _ (h l hl)⟩) (fun _ _ _ _ _ _ hDa ⟨t, e, h⟩ => ⟨t, e, fun l hl => by rw [upd_ne (ne_of (h l hl) hDa (by intro h; cases h))]; exact h l hl⟩) (fun m x H12 H13 acc R hm1 r hDa hy hR => ?_) (fun ys H12 hly hg r12 hDs => ?_)
        · obtain ⟨rfl, e1⟩ := hy
          obtain ⟨l, hl, rfl⟩ := txs_get e1
          have hlm := hmem l (List.mem_of_getElem? hl)
          refine ⟨rfl, _, rfl, _, rfl, _, rfl, sg, p, ims, l, rfl, SqL.of (r _ _ hp11), g, hlm.2, by have := hlm.1; omega, fun H14 w14 => ?_⟩
          refine ⟨_, rfl, by show 2 ≤ sizeLine; decide, fun t ht => ?_⟩
          refine hR _ _ (w14.trans (sm_new ht)) ⟨t, rfl, fun l' hl' => ?_⟩
          rw [hl] at hl'
          rw [← Option.some.inj hl']
          exact upd_same
        obtain ⟨ps, rfl⟩ := refs_of fun j y e => let ⟨t, e', _⟩ := hg j y e; ⟨t, e'⟩
        have hps : ps.length = rs.length := by rw [List.length_map, txs_len] at hly; exact hly
        have hat : ∀ (i : Nat) (t : Addr) (l : List Nat), ps[i]? = some t → rs[i]? = some l → H12 t = some (.tup [.str (S (app sg ims l)), .str (S l)]) := fun i t l h1 h2 => by
          obtain ⟨t', e, h⟩ := hg i (.ref t) (by rw [List.getElem?_map, h1]; rfl)
          cases e
          exact h l h2
        have hp12 := r12 _ _ hp11
        have hp2b := r12 _ _ hp2
        have hc12 := hc11.same r12
        have e12 := e11.trans r12
        have bx12 := (bk_same r12 bx11).2
        clear hly hg r12 hD hp11 hc11 e11 bx11 hp2 H11
        refine ⟨D, ps, rs.map fun l => ((Sum.inr (S (app sg ims l)) : Key), V.str (S l)), rfl, SqL.of hDs, paired_get hps fun i t l h1 h2 => SqT.of (hat i t l h1 h2), fun d hd => ?_⟩
        generalize hkv : (rs.map fun l => ((Sum.inr (S (app sg ims l)) : Key), V.str (S l))) = kvs
        have w13 := sm_new (o := .dK (mergeK [] kvs)) hd
        have hd13 : (upd H12 d (.dK (mergeK [] kvs))) d = some (.dK (mergeK [] kvs)) := upd_same
        have hp13 := w13 _ _ hp12
        have hp2c := w13 _ _ hp2b
        have hc13 := hc12.same w13
        have e13 := e12.trans w13
        have bx13 := (bk_same w13 bx12).2
        generalize upd H12 d (.dK (mergeK [] kvs)) = H13 at w13 hd13 hp13 hp2c hc13 e13 bx13 ⊢
        clear hp12 hp2b hc12 e12 bx12 hat hps hDs hd w13 H12
        have hlen : b2 = true → (mergeK [] kvs).length = rs.length := fun hb => by
          obtain ⟨hf, hcl⟩ := hgb.mp hb
          have hk : (kvs.map (·.1)).Nodup := by
            rw [← hkv, List.map_map]
            refine List.Pairwise.map _ (fun a b (hab : a ∈ rs ∧ b ∈ rs ∧ a ≠ b) e => hab.2.2 ?_) (pair_mem hnd)
            exact clear_inj g.good.hl hf hcl (hmem a hab.1).2 (hmem b hab.2.1).2 (inr_inj e)
          rw [merge_nil hk, ← hkv, List.length_map]
        refine ⟨fun σ H' => σ = [some (.ref a), some (.int (0 + (i : Int))), some (.ref b), some (.int (0 + (j : Int))), some (.str (S sg)), some (.ref p), some (.ref q), some (.bl L), some v8, some (.bl b2), some (.ref p2), some (.ref d), s12, none, none] ∧ H13 = H', ?_, ?_⟩
        · refine ⟨_, rfl, _, rfl, ?_⟩
          refine and3 (fun hb => ?_) ?_
          · refine ⟨_, rfl, d, _, rfl, hd13, _, rfl, p2, _, rfl, .inl (SqL.of hp2c), rfl, _, rfl, iteN ?_ ?_⟩
            · rw [hlen hb, txs_len]; simp
            · exact ⟨rfl, rfl⟩
          · exact ⟨rfl, rfl⟩
        rintro σ _ ⟨rfl, rfl⟩
        refine ⟨_, rfl, p2, rfl, ⟨_, SqL.of hp2c⟩, fun D hD => ?_⟩
        refine lc_keepH keep_same (walk_list (K := K) (a := p2) (xs := txs rs)) hD (by rw [txs_len]; exact small1000 (by omega)) (fun j y H => ∃ (t : Addr) (u v : List Nat), y = .ref t ∧ H t = some (.tup [.str (S u), .str (S v)]) ∧ Ov sg u ∧ Ov sg v ∧ u.length ≤ 4 ∧ v.length ≤ 4 ∧ app sg ims u = app sg ims v) (fun H r => SqL.of (r _ _ hp2c))
          (fun _ _ _ _ _ r ⟨t, u, v, e, h, z⟩ => ⟨t, u, v, e, r _ _ h, z⟩) (fun _ _ _ _ _ _ hDa ⟨t, u, v, e, h, z⟩ => ⟨t, u, v, e, by rw [upd_ne (ne_of h hDa (by intro h; cases h))]; exact h, z⟩) (fun m x H14 H15 acc R hm1 r hDa hy hR => ?_) (fun ys H14 hly hg r14 hDs => ?_)
        · obtain ⟨rfl, e1⟩ := hy
          obtain ⟨l, hl, rfl⟩ := txs_get e1
          have hlr := List.mem_of_getElem? hl
          have hlm := hmem l hlr
          obtain ⟨v, hv1, hv2⟩ := mergeK_val (acc := []) (more := kvs) (k := Sum.inr (S (app sg ims l))) ⟨.str (S l), by rw [← hkv]; exact List.mem_map.mpr ⟨l, hlr, rfl⟩⟩
          rw [← hkv] at hv2
          obtain ⟨l2, hl2, e2⟩ := List.mem_map.mp hv2
          obtain ⟨ek, ev⟩ := Prod.mk.inj e2
          subst ev
          have eapp := inr_inj ek
          have hl2m := hmem l2 hl2
          refine ⟨rfl, _, rfl, _, rfl, _, rfl, _, rfl, _, rfl, sg, p, ims, l, rfl, SqL.of (r _ _ hp13), g, hlm.2, by have := hlm.1; omega, fun H16 w16 => ?_⟩
          refine ⟨d, .str (S l2), rfl, .inl ⟨_, Sum.inr (S (app sg ims l)), .inl (w16 _ _ (r _ _ hd13)), rfl, hv1.symm⟩, ?_⟩
          refine ⟨by show 2 ≤ sizeLine; decide, fun t ht => ?_⟩
          exact hR _ _ (w16.trans (sm_new ht)) ⟨t, l, l2, rfl, upd_same, hlm.2, hl2m.2, hlm.1, hl2m.1, eapp.symm⟩
        have hp14 := r14 _ _ hp13
        have hc14 := hc13.same r14
        have e14 := e13.trans r14
        have bx14 := (bk_same r14 bx13).2
        have hlr : ys.length = rs.length := by rw [hly, txs_len]
        clear hD r14 hlen hd13 hp2c hp13 hc13 e13 bx13 H13
        refine ⟨_, rfl, D, rfl, ⟨_, SqL.of hDs⟩, fun D2 hD2 => ?_⟩
        refine lc_keepF keep_same (walk_list (K := K) (a := D) (xs := ys)) hD2 (by rw [hlr]; exact small1000 (by omega)) (fun _ => false) (fun _ _ _ => True) (fun H r => SqL.of (r _ _ hDs)) (fun _ _ _ _ _ _ _ => trivial) (fun _ _ _ _ _ _ _ _ => trivial) (fun m x Hx Hy acc N R hj sx hDa hy hR hN => ?_) (fun zs Hz hlz _ sz hDz => ?_)
        · obtain ⟨rfl, e1⟩ := hy
          obtain ⟨t, u, v, rfl, ht, ou, ov, lu, lv, eapp⟩ := hg m x e1
          have htx := sx _ _ ht
          refine ⟨rfl, _, rfl, _, rfl, q, .ref t, .tuple [.str (S u), .str (S v)], sg, ims, rfl, hc14.same sx, g, dp_two htx, ok_two hm ou ov (by omega) (by omega), fun H15 w15 => ?_⟩
          rw [holds_two ou ov, decide_eq_true eapp, Bool.and_true]
          have ht15 := w15 _ _ htx
          refine ⟨_, rfl, t, _, 0, _, rfl, rfl, SqT.of ht15, rfl, _, rfl, t, _, 1, _, rfl, rfl, SqT.of ht15, rfl, rfl, rfl, _, rfl, iteN ?_ ?_⟩
          · have e1 : (!decide (V.str (S u) = V.str (S v))) = decide (u ≠ v) := by
              rw [Bool.eq_iff_iff]; simp [S]
            rw [e1]; simp
          · exact hN rfl _ w15
        rw [none_taken] at hlz
        obtain rfl := List.length_eq_zero_iff.mp hlz
        refine ⟨by show 0 ≤ sizeLine; decide, fun e he => ?_⟩
        have w16 := sm_new (o := .lst []) he
        refine ⟨D2, e, [], rfl, rfl, w16 _ _ hDz, upd_same, _, rfl, iteN rfl ?_⟩
        have wz := sz.trans w16
        have hp16 := wz _ _ hp14
        have hc16 := hc14.same wz
        have e16 := e14.trans wz
        have bx16 := (bk_same wz bx14).2
        generalize upd Hz e (.lst []) = H16 at hp16 hc16 e16 bx16 ⊢
        refine nxt ?_
        dsimp only
        refine ⟨_, rfl, _, rfl, _, rfl, _, rfl, b, sg, p, q, ims, rfl, bx16, npb, hp16, hc16, g, fun H17 hB17 => ⟨_, rfl, iteN rfl ?_⟩⟩
        exact ⟨⟨_, _, _, _, _, _, _, _, _, _, rfl⟩, bxs e16 hB17, hB17.2⟩
      · rintro σ H3 ⟨⟨s4, s5, s6, s7, s8, s9, s10, s11, s12, s3, rfl⟩, e3, hB3⟩
        exact ⟨⟨_, _, _, _, _, _, _, _, _, _, _, _, rfl⟩, e3⟩
    · rintro σ H1 ⟨⟨s1, s2, s3, s4, s5, s6, s7, s8, s9, s10, s11, s12, rfl⟩, e1⟩
      exact kk _
end
end Toy
set_option maxHeartbeats 8000000
namespace Toy
open PySem L2 C8 SX LX
theorem all_mk {l : PySem.W.OpenLaw} {w : World} {K : PySem.W.Frag} {h : Heap} {mg : Str → Option Value} {fa : Addr} {f_choose f_one_of f_seed f_signs f_row f_images f_any f_isseq f_isrow f_isletters f_issigns f_isrows f_tupof f_init f_xic f_of f_first f_next f_ways f_rests f_clash f_clear f_holds f_image f_behind f_rows f_lrests f_told f_others f_law C_Change C_InvalidChange : Addr} (X : K.In h) (G : h.Ns mainGlobals mg) (hfa : mg "law" = some (.ref fa))
    {od_choose an_choose : Option Addr} {sl_choose : Array (Option Value)} {oc_choose kV_choose dc_choose pm_choose cd_choose ct_choose : Value}
    {od_one_of an_one_of : Option Addr} {sl_one_of : Array (Option Value)} {oc_one_of kV_one_of dc_one_of pm_one_of cd_one_of ct_one_of : Value}
    {od_seed an_seed : Option Addr} {sl_seed : Array (Option Value)} {oc_seed kV_seed dc_seed pm_seed cd_seed ct_seed : Value}
    {od_signs an_signs : Option Addr} {sl_signs : Array (Option Value)} {oc_signs kV_signs dc_signs pm_signs cd_signs ct_signs : Value}
    {od_row an_row : Option Addr} {sl_row : Array (Option Value)} {oc_row kV_row dc_row pm_row cd_row ct_row : Value}
    {od_images an_images : Option Addr} {sl_images : Array (Option Value)} {oc_images kV_images dc_images pm_images cd_images ct_images : Value}
    {od_any an_any : Option Addr} {sl_any : Array (Option Value)} {oc_any kV_any dc_any pm_any cd_any ct_any : Value}
    {od_isseq an_isseq : Option Addr} {sl_isseq : Array (Option Value)} {oc_isseq kV_isseq dc_isseq pm_isseq cd_isseq ct_isseq : Value}
    {od_isrow an_isrow : Option Addr} {sl_isrow : Array (Option Value)} {oc_isrow kV_isrow dc_isrow pm_isrow cd_isrow ct_isrow : Value}
    {od_isletters an_isletters : Option Addr} {sl_isletters : Array (Option Value)} {oc_isletters kV_isletters dc_isletters pm_isletters cd_isletters ct_isletters : Value}
    {od_issigns an_issigns : Option Addr} {sl_issigns : Array (Option Value)} {oc_issigns kV_issigns dc_issigns pm_issigns cd_issigns ct_issigns : Value}
    {od_isrows an_isrows : Option Addr} {sl_isrows : Array (Option Value)} {oc_isrows kV_isrows dc_isrows pm_isrows cd_isrows ct_isrows : Value}
    {od_tupof an_tupof : Option Addr} {sl_tupof : Array (Option Value)} {oc_tupof kV_tupof dc_tupof pm_tupof cd_tupof ct_tupof : Value}
    {od_init an_init : Option Addr} {sl_init : Array (Option Value)} {oc_init kV_init dc_init pm_init cd_init ct_init : Value}
    {od_xic an_xic : Option Addr} {sl_xic : Array (Option Value)} {oc_xic kV_xic dc_xic pm_xic cd_xic ct_xic : Value}
    {od_of an_of : Option Addr} {sl_of : Array (Option Value)} {oc_of kV_of dc_of pm_of cd_of ct_of : Value}
    {od_first an_first : Option Addr} {sl_first : Array (Option Value)} {oc_first kV_first dc_first pm_first cd_first ct_first : Value}
    {od_next an_next : Option Addr} {sl_next : Array (Option Value)} {oc_next kV_next dc_next pm_next cd_next ct_next : Value}
    {od_ways an_ways : Option Addr} {sl_ways : Array (Option Value)} {oc_ways kV_ways dc_ways pm_ways cd_ways ct_ways : Value}
    {od_rests an_rests : Option Addr} {sl_rests : Array (Option Value)} {oc_rests kV_rests dc_rests pm_rests cd_rests ct_rests : Value}
    {od_clash an_clash : Option Addr} {sl_clash : Array (Option Value)} {oc_clash kV_clash dc_clash pm_clash cd_clash ct_clash : Value}
    {od_clear an_clear : Option Addr} {sl_clear : Array (Option Value)} {oc_clear kV_clear dc_clear pm_clear cd_clear ct_clear : Value}
    {od_holds an_holds : Option Addr} {sl_holds : Array (Option Value)} {oc_holds kV_holds dc_holds pm_holds cd_holds ct_holds : Value}
    {od_image an_image : Option Addr} {sl_image : Array (Option Value)} {oc_image kV_image dc_image pm_image cd_image ct_image : Value}
    {od_behind an_behind : Option Addr} {sl_behind : Array (Option Value)} {oc_behind kV_behind dc_behind pm_behind cd_behind ct_behind : Value}
    {od_rows an_rows : Option Addr} {sl_rows : Array (Option Value)} {oc_rows kV_rows dc_rows pm_rows cd_rows ct_rows : Value}
    {od_lrests an_lrests : Option Addr} {sl_lrests : Array (Option Value)} {oc_lrests kV_lrests dc_lrests pm_lrests cd_lrests ct_lrests : Value}
    {od_told an_told : Option Addr} {sl_told : Array (Option Value)} {oc_told kV_told dc_told pm_told cd_told ct_told : Value}
    {od_others an_others : Option Addr} {sl_others : Array (Option Value)} {oc_others kV_others dc_others pm_others cd_others ct_others : Value}
    {od_law an_law : Option Addr} {sl_law : Array (Option Value)} {oc_law kV_law dc_law pm_law cd_law ct_law : Value}
    {tk_az : Tok}
    (q_az : PySem.W.nsIn K mainGlobals "_LETTERS" = some (some (.str (S az) tk_az)))
    (g_Change : PySem.W.nsIn K mainGlobals "Change" = some (some (.ref C_Change)))
    (pg_Change : PySem.W.plainGet K C_Change Str.empty = true)
    (hd_Change : PySem.W.hasDictIn K C_Change = true)
    (po_Change : PySem.W.plainOver K C_Change = true)
    (sa_Change : PySem.W.findIn K (.ref C_Change) "__setattr__" = some (some (.builtin "object.__setattr__")))
    (kc_Change : PySem.W.keepIn K (.ref C_Change) = true)
    (n_Change_signs : PySem.W.findIn K (.ref C_Change) "signs" = some none)
    (n_Change_rows : PySem.W.findIn K (.ref C_Change) "rows" = some none)
    (mk_Change : PySem.W.makesIn K C_Change = true)
    (xg_InvalidChange : PySem.W.nsIn K mainGlobals "InvalidChange" = some (some (.ref C_InvalidChange)))
    (xc_InvalidChange : XC K C_InvalidChange)
    (xf_InvalidChange : PySem.W.findIn K (.ref C_InvalidChange) "word" = some none)
    (a_choose : PySem.W.nsIn K mainGlobals "_law_choose" = some (some (.ref f_choose)))
    (l_choose : K.lookup f_choose = some ⟨oc_choose, od_choose, .func (PySem.W.fnOf "_law_choose" "_law_choose" (C8.fnArgs s_choose) (C8.fnBody s_choose) (C8.fnScope s_choose) .none kV_choose dc_choose pm_choose an_choose cd_choose ct_choose), sl_choose⟩)
    (c_choose : PySem.W.codeIn K cd_choose "_law_choose" = true)
    (k_choose : PySem.W.keepIn K (.ref f_choose) = true)
    (a_one_of : PySem.W.nsIn K mainGlobals "_law_one_of" = some (some (.ref f_one_of)))
    (l_one_of : K.lookup f_one_of = some ⟨oc_one_of, od_one_of, .func (PySem.W.fnOf "_law_one_of" "_law_one_of" (C8.fnArgs s_one_of) (C8.fnBody s_one_of) (C8.fnScope s_one_of) .none kV_one_of dc_one_of pm_one_of an_one_of cd_one_of ct_one_of), sl_one_of⟩)
    (c_one_of : PySem.W.codeIn K cd_one_of "_law_one_of" = true)
    (k_one_of : PySem.W.keepIn K (.ref f_one_of) = true)
    (a_seed : PySem.W.nsIn K mainGlobals "_law_seed" = some (some (.ref f_seed)))
    (l_seed : K.lookup f_seed = some ⟨oc_seed, od_seed, .func (PySem.W.fnOf "_law_seed" "_law_seed" (C8.fnArgs s_seed) (C8.fnBody s_seed) (C8.fnScope s_seed) .none kV_seed dc_seed pm_seed an_seed cd_seed ct_seed), sl_seed⟩)
    (c_seed : PySem.W.codeIn K cd_seed "_law_seed" = true)
    (k_seed : PySem.W.keepIn K (.ref f_seed) = true)
    (a_signs : PySem.W.nsIn K mainGlobals "_law_signs" = some (some (.ref f_signs)))
    (l_signs : K.lookup f_signs = some ⟨oc_signs, od_signs, .func (PySem.W.fnOf "_law_signs" "_law_signs" (C8.fnArgs s_signs) (C8.fnBody s_signs) (C8.fnScope s_signs) .none kV_signs dc_signs pm_signs an_signs cd_signs ct_signs), sl_signs⟩)
    (c_signs : PySem.W.codeIn K cd_signs "_law_signs" = true)
    (k_signs : PySem.W.keepIn K (.ref f_signs) = true)
    (a_row : PySem.W.nsIn K mainGlobals "_law_row" = some (some (.ref f_row)))
    (l_row : K.lookup f_row = some ⟨oc_row, od_row, .func (PySem.W.fnOf "_law_row" "_law_row" (C8.fnArgs s_row) (C8.fnBody s_row) (C8.fnScope s_row) .none kV_row dc_row pm_row an_row cd_row ct_row), sl_row⟩)
    (c_row : PySem.W.codeIn K cd_row "_law_row" = true)
    (k_row : PySem.W.keepIn K (.ref f_row) = true)
    (a_images : PySem.W.nsIn K mainGlobals "_law_images" = some (some (.ref f_images)))
    (l_images : K.lookup f_images = some ⟨oc_images, od_images, .func (PySem.W.fnOf "_law_images" "_law_images" (C8.fnArgs s_images) (C8.fnBody s_images) (C8.fnScope s_images) .none kV_images dc_images pm_images an_images cd_images ct_images), sl_images⟩)
    (c_images : PySem.W.codeIn K cd_images "_law_images" = true)
    (k_images : PySem.W.keepIn K (.ref f_images) = true)
    (a_any : PySem.W.nsIn K mainGlobals "_law_any" = some (some (.ref f_any)))
    (l_any : K.lookup f_any = some ⟨oc_any, od_any, .func (PySem.W.fnOf "_law_any" "_law_any" (C8.fnArgs s_any) (C8.fnBody s_any) (C8.fnScope s_any) .none kV_any dc_any pm_any an_any cd_any ct_any), sl_any⟩)
    (c_any : PySem.W.codeIn K cd_any "_law_any" = true)
    (k_any : PySem.W.keepIn K (.ref f_any) = true)
    (a_isseq : PySem.W.nsIn K mainGlobals "is_sequence" = some (some (.ref f_isseq)))
    (l_isseq : K.lookup f_isseq = some ⟨oc_isseq, od_isseq, .func (PySem.W.fnOf "is_sequence" "is_sequence" (C8.fnArgs s_isseq) (C8.fnBody s_isseq) (C8.fnScope s_isseq) .none kV_isseq dc_isseq pm_isseq an_isseq cd_isseq ct_isseq), sl_isseq⟩)
    (c_isseq : PySem.W.codeIn K cd_isseq "is_sequence" = true)
    (k_isseq : PySem.W.keepIn K (.ref f_isseq) = true)
    (a_isrow : PySem.W.nsIn K mainGlobals "is_row" = some (some (.ref f_isrow)))
    (l_isrow : K.lookup f_isrow = some ⟨oc_isrow, od_isrow, .func (PySem.W.fnOf "is_row" "is_row" (C8.fnArgs s_isrow) (C8.fnBody s_isrow) (C8.fnScope s_isrow) .none kV_isrow dc_isrow pm_isrow an_isrow cd_isrow ct_isrow), sl_isrow⟩)
    (c_isrow : PySem.W.codeIn K cd_isrow "is_row" = true)
    (k_isrow : PySem.W.keepIn K (.ref f_isrow) = true)
    (a_isletters : PySem.W.nsIn K mainGlobals "is_letters" = some (some (.ref f_isletters)))
    (l_isletters : K.lookup f_isletters = some ⟨oc_isletters, od_isletters, .func (PySem.W.fnOf "is_letters" "is_letters" (C8.fnArgs s_isletters) (C8.fnBody s_isletters) (C8.fnScope s_isletters) .none kV_isletters dc_isletters pm_isletters an_isletters cd_isletters ct_isletters), sl_isletters⟩)
    (c_isletters : PySem.W.codeIn K cd_isletters "is_letters" = true)
    (k_isletters : PySem.W.keepIn K (.ref f_isletters) = true)
    (a_issigns : PySem.W.nsIn K mainGlobals "is_signs" = some (some (.ref f_issigns)))
    (l_issigns : K.lookup f_issigns = some ⟨oc_issigns, od_issigns, .func (PySem.W.fnOf "is_signs" "is_signs" (C8.fnArgs s_issigns) (C8.fnBody s_issigns) (C8.fnScope s_issigns) .none kV_issigns dc_issigns pm_issigns an_issigns cd_issigns ct_issigns), sl_issigns⟩)
    (c_issigns : PySem.W.codeIn K cd_issigns "is_signs" = true)
    (k_issigns : PySem.W.keepIn K (.ref f_issigns) = true)
    (a_isrows : PySem.W.nsIn K mainGlobals "is_rows" = some (some (.ref f_isrows)))
    (l_isrows : K.lookup f_isrows = some ⟨oc_isrows, od_isrows, .func (PySem.W.fnOf "is_rows" "is_rows" (C8.fnArgs s_isrows) (C8.fnBody s_isrows) (C8.fnScope s_isrows) .none kV_isrows dc_isrows pm_isrows an_isrows cd_isrows ct_isrows), sl_isrows⟩)
    (c_isrows : PySem.W.codeIn K cd_isrows "is_rows" = true)
    (k_isrows : PySem.W.keepIn K (.ref f_isrows) = true)
    (a_tupof : PySem.W.nsIn K mainGlobals "is_tuple_of" = some (some (.ref f_tupof)))
    (l_tupof : K.lookup f_tupof = some ⟨oc_tupof, od_tupof, .func (PySem.W.fnOf "is_tuple_of" "is_tuple_of" (C8.fnArgs s_tupof) (C8.fnBody s_tupof) (C8.fnScope s_tupof) .none kV_tupof dc_tupof pm_tupof an_tupof cd_tupof ct_tupof), sl_tupof⟩)
    (c_tupof : PySem.W.codeIn K cd_tupof "is_tuple_of" = true)
    (k_tupof : PySem.W.keepIn K (.ref f_tupof) = true)
    (a_init : PySem.W.findIn K (.ref C_Change) "__init__" = some (some (.ref f_init)))
    (i_init : PySem.W.isFn K (.ref f_init) = true)
    (l_init : K.lookup f_init = some ⟨oc_init, od_init, .func (PySem.W.fnOf "__init__" "Change.__init__" (C8.fnArgs s_init) (C8.fnBody s_init) (C8.fnScope s_init) .none kV_init dc_init pm_init an_init cd_init ct_init), sl_init⟩)
    (c_init : PySem.W.codeIn K cd_init "Change.__init__" = true)
    (k_init : PySem.W.keepIn K (.ref f_init) = true)
    (a_xic : PySem.W.findIn K (.ref C_InvalidChange) "__init__" = some (some (.ref f_xic)))
    (i_xic : PySem.W.isFn K (.ref f_xic) = true)
    (l_xic : K.lookup f_xic = some ⟨oc_xic, od_xic, .func (PySem.W.fnOf "__init__" "InvalidChange.__init__" (C8.fnArgs s_xic) (C8.fnBody s_xic) (C8.fnScope s_xic) .none kV_xic dc_xic pm_xic an_xic cd_xic ct_xic), sl_xic⟩)
    (c_xic : PySem.W.codeIn K cd_xic "InvalidChange.__init__" = true)
    (k_xic : PySem.W.keepIn K (.ref f_xic) = true)
    (a_of : PySem.W.findIn K (.ref C_Change) "of" = some (some (.ref f_of)))
    (i_of : PySem.W.isFn K (.ref f_of) = true)
    (l_of : K.lookup f_of = some ⟨oc_of, od_of, .func (PySem.W.fnOf "of" "Change.of" (C8.fnArgs s_of) (C8.fnBody s_of) (C8.fnScope s_of) .none kV_of dc_of pm_of an_of cd_of ct_of), sl_of⟩)
    (c_of : PySem.W.codeIn K cd_of "Change.of" = true)
    (k_of : PySem.W.keepIn K (.ref f_of) = true)
    (a_first : PySem.W.nsIn K mainGlobals "_first_rests" = some (some (.ref f_first)))
    (l_first : K.lookup f_first = some ⟨oc_first, od_first, .func (PySem.W.fnOf "_first_rests" "_first_rests" (C8.fnArgs s_first) (C8.fnBody s_first) (C8.fnScope s_first) .none kV_first dc_first pm_first an_first cd_first ct_first), sl_first⟩)
    (c_first : PySem.W.codeIn K cd_first "_first_rests" = true)
    (k_first : PySem.W.keepIn K (.ref f_first) = true)
    (a_next : PySem.W.nsIn K mainGlobals "_next_rests" = some (some (.ref f_next)))
    (l_next : K.lookup f_next = some ⟨oc_next, od_next, .func (PySem.W.fnOf "_next_rests" "_next_rests" (C8.fnArgs s_next) (C8.fnBody s_next) (C8.fnScope s_next) .none kV_next dc_next pm_next an_next cd_next ct_next), sl_next⟩)
    (c_next : PySem.W.codeIn K cd_next "_next_rests" = true)
    (k_next : PySem.W.keepIn K (.ref f_next) = true)
    (a_ways : PySem.W.nsIn K mainGlobals "_ways_to_rests" = some (some (.ref f_ways)))
    (l_ways : K.lookup f_ways = some ⟨oc_ways, od_ways, .func (PySem.W.fnOf "_ways_to_rests" "_ways_to_rests" (C8.fnArgs s_ways) (C8.fnBody s_ways) (C8.fnScope s_ways) .none kV_ways dc_ways pm_ways an_ways cd_ways ct_ways), sl_ways⟩)
    (c_ways : PySem.W.codeIn K cd_ways "_ways_to_rests" = true)
    (k_ways : PySem.W.keepIn K (.ref f_ways) = true)
    (a_rests : PySem.W.nsIn K mainGlobals "rests" = some (some (.ref f_rests)))
    (l_rests : K.lookup f_rests = some ⟨oc_rests, od_rests, .func (PySem.W.fnOf "rests" "rests" (C8.fnArgs s_rests) (C8.fnBody s_rests) (C8.fnScope s_rests) .none kV_rests dc_rests pm_rests an_rests cd_rests ct_rests), sl_rests⟩)
    (c_rests : PySem.W.codeIn K cd_rests "rests" = true)
    (k_rests : PySem.W.keepIn K (.ref f_rests) = true)
    (a_clash : PySem.W.nsIn K mainGlobals "clash" = some (some (.ref f_clash)))
    (l_clash : K.lookup f_clash = some ⟨oc_clash, od_clash, .func (PySem.W.fnOf "clash" "clash" (C8.fnArgs s_clash) (C8.fnBody s_clash) (C8.fnScope s_clash) .none kV_clash dc_clash pm_clash an_clash cd_clash ct_clash), sl_clash⟩)
    (c_clash : PySem.W.codeIn K cd_clash "clash" = true)
    (k_clash : PySem.W.keepIn K (.ref f_clash) = true)
    (a_clear : PySem.W.nsIn K mainGlobals "is_clear" = some (some (.ref f_clear)))
    (l_clear : K.lookup f_clear = some ⟨oc_clear, od_clear, .func (PySem.W.fnOf "is_clear" "is_clear" (C8.fnArgs s_clear) (C8.fnBody s_clear) (C8.fnScope s_clear) .none kV_clear dc_clear pm_clear an_clear cd_clear ct_clear), sl_clear⟩)
    (c_clear : PySem.W.codeIn K cd_clear "is_clear" = true)
    (k_clear : PySem.W.keepIn K (.ref f_clear) = true)
    (a_holds : PySem.W.nsIn K mainGlobals "clash_holds" = some (some (.ref f_holds)))
    (l_holds : K.lookup f_holds = some ⟨oc_holds, od_holds, .func (PySem.W.fnOf "clash_holds" "clash_holds" (C8.fnArgs s_holds) (C8.fnBody s_holds) (C8.fnScope s_holds) .none kV_holds dc_holds pm_holds an_holds cd_holds ct_holds), sl_holds⟩)
    (c_holds : PySem.W.codeIn K cd_holds "clash_holds" = true)
    (k_holds : PySem.W.keepIn K (.ref f_holds) = true)
    (a_image : PySem.W.nsIn K mainGlobals "_law_image" = some (some (.ref f_image)))
    (l_image : K.lookup f_image = some ⟨oc_image, od_image, .func (PySem.W.fnOf "_law_image" "_law_image" (C8.fnArgs s_image) (C8.fnBody s_image) (C8.fnScope s_image) .none kV_image dc_image pm_image an_image cd_image ct_image), sl_image⟩)
    (c_image : PySem.W.codeIn K cd_image "_law_image" = true)
    (k_image : PySem.W.keepIn K (.ref f_image) = true)
    (a_behind : PySem.W.nsIn K mainGlobals "_law_behind" = some (some (.ref f_behind)))
    (l_behind : K.lookup f_behind = some ⟨oc_behind, od_behind, .func (PySem.W.fnOf "_law_behind" "_law_behind" (C8.fnArgs s_behind) (C8.fnBody s_behind) (C8.fnScope s_behind) .none kV_behind dc_behind pm_behind an_behind cd_behind ct_behind), sl_behind⟩)
    (c_behind : PySem.W.codeIn K cd_behind "_law_behind" = true)
    (k_behind : PySem.W.keepIn K (.ref f_behind) = true)
    (a_rows : PySem.W.nsIn K mainGlobals "_law_rows" = some (some (.ref f_rows)))
    (l_rows : K.lookup f_rows = some ⟨oc_rows, od_rows, .func (PySem.W.fnOf "_law_rows" "_law_rows" (C8.fnArgs s_rows) (C8.fnBody s_rows) (C8.fnScope s_rows) .none kV_rows dc_rows pm_rows an_rows cd_rows ct_rows), sl_rows⟩)
    (c_rows : PySem.W.codeIn K cd_rows "_law_rows" = true)
    (k_rows : PySem.W.keepIn K (.ref f_rows) = true)
    (a_lrests : PySem.W.nsIn K mainGlobals "_law_rests" = some (some (.ref f_lrests)))
    (l_lrests : K.lookup f_lrests = some ⟨oc_lrests, od_lrests, .func (PySem.W.fnOf "_law_rests" "_law_rests" (C8.fnArgs s_lrests) (C8.fnBody s_lrests) (C8.fnScope s_lrests) .none kV_lrests dc_lrests pm_lrests an_lrests cd_lrests ct_lrests), sl_lrests⟩)
    (c_lrests : PySem.W.codeIn K cd_lrests "_law_rests" = true)
    (k_lrests : PySem.W.keepIn K (.ref f_lrests) = true)
    (a_told : PySem.W.nsIn K mainGlobals "_law_told_right" = some (some (.ref f_told)))
    (l_told : K.lookup f_told = some ⟨oc_told, od_told, .func (PySem.W.fnOf "_law_told_right" "_law_told_right" (C8.fnArgs s_told) (C8.fnBody s_told) (C8.fnScope s_told) .none kV_told dc_told pm_told an_told cd_told ct_told), sl_told⟩)
    (c_told : PySem.W.codeIn K cd_told "_law_told_right" = true)
    (k_told : PySem.W.keepIn K (.ref f_told) = true)
    (a_others : PySem.W.nsIn K mainGlobals "_law_others_right" = some (some (.ref f_others)))
    (l_others : K.lookup f_others = some ⟨oc_others, od_others, .func (PySem.W.fnOf "_law_others_right" "_law_others_right" (C8.fnArgs s_others) (C8.fnBody s_others) (C8.fnScope s_others) .none kV_others dc_others pm_others an_others cd_others ct_others), sl_others⟩)
    (c_others : PySem.W.codeIn K cd_others "_law_others_right" = true)
    (k_others : PySem.W.keepIn K (.ref f_others) = true)
    (a_law : PySem.W.nsIn K mainGlobals "law" = some (some (.ref f_law)))
    (l_law : K.lookup f_law = some ⟨oc_law, od_law, .func (PySem.W.fnOf "law" "law" (C8.fnArgs s_law) (C8.fnBody s_law) (C8.fnScope s_law) .none kV_law dc_law pm_law an_law cd_law ct_law), sl_law⟩)
    (c_law : PySem.W.codeIn K cd_law "law" = true)
    (k_law : PySem.W.keepIn K (.ref f_law) = true)
    (z_int : PySem.W.nsIn K mainGlobals "int" = some none)
    (z_len : PySem.W.nsIn K mainGlobals "len" = some none)
    (z_abs : PySem.W.nsIn K mainGlobals "abs" = some none)
    (z_str : PySem.W.nsIn K mainGlobals "str" = some none)
    (z_list : PySem.W.nsIn K mainGlobals "list" = some none)
    (z_tuple : PySem.W.nsIn K mainGlobals "tuple" = some none)
    (z_isinstance : PySem.W.nsIn K mainGlobals "isinstance" = some none)
    (z_all : PySem.W.nsIn K mainGlobals "all" = some none)
    (z_zip : PySem.W.nsIn K mainGlobals "zip" = some none)
    (z_range : PySem.W.nsIn K mainGlobals "range" = some none)
    (z_max : PySem.W.nsIn K mainGlobals "max" = some none)
    (z_min : PySem.W.nsIn K mainGlobals "min" = some none)
    (z_repr : PySem.W.nsIn K mainGlobals "repr" = some none)
    (z_sorted : PySem.W.nsIn K mainGlobals "sorted" = some none)
    (z_set : PySem.W.nsIn K mainGlobals "set" = some none)
    (z_enumerate : PySem.W.nsIn K mainGlobals "enumerate" = some none)
    (z_dict : PySem.W.nsIn K mainGlobals "dict" = some none) :
    ∃ fd : FuncData, (∀ (s : Shared) (v : Value), BindsTo s fd ⟨[v], []⟩ [("script", v)]) ∧ ∀ base : Heap, K.In base → base.Ns mainGlobals mg → FnG l.prog w K mg base 11 fa fd ["script"] (spLaw K) := by
  have e := hfa.symm.trans (PySem.W.mg_of X G a_law)
  cases e
  have T : BT mg := ⟨PySem.W.mg_none_of X G z_int, PySem.W.mg_none_of X G z_len, PySem.W.mg_none_of X G z_abs, PySem.W.mg_none_of X G z_str, PySem.W.mg_none_of X G z_list, PySem.W.mg_none_of X G z_tuple, PySem.W.mg_none_of X G z_isinstance, PySem.W.mg_none_of X G z_all, PySem.W.mg_none_of X G z_zip, PySem.W.mg_none_of X G z_range, PySem.W.mg_none_of X G z_max, PySem.W.mg_none_of X G z_min, PySem.W.mg_none_of X G z_repr, PySem.W.mg_none_of X G z_sorted, PySem.W.mg_none_of X G z_set, PySem.W.mg_none_of X G z_enumerate, PySem.W.mg_none_of X G z_dict⟩
  have mg_az := PySem.W.mg_of X G q_az
  have U_choose : C8.Fun K "_law_choose" "_law_choose" s_choose f_choose (PySem.W.fnOf "_law_choose" "_law_choose" (C8.fnArgs s_choose) (C8.fnBody s_choose) (C8.fnScope s_choose) .none kV_choose dc_choose pm_choose an_choose cd_choose ct_choose) := ⟨oc_choose, od_choose, .none, kV_choose, dc_choose, pm_choose, an_choose, cd_choose, ct_choose, sl_choose, rfl, l_choose, c_choose⟩
  have F_choose : C8.Def K mg "_law_choose" s_choose f_choose _ := ⟨U_choose, PySem.W.mg_of X G a_choose, k_choose⟩
  have b_choose := U_choose.binds rfl (ps := ["box", "many"]) fun _ _ _ _ _ _ us hl => match us, hl with | [_, _], _ => rfl
  have U_one_of : C8.Fun K "_law_one_of" "_law_one_of" s_one_of f_one_of (PySem.W.fnOf "_law_one_of" "_law_one_of" (C8.fnArgs s_one_of) (C8.fnBody s_one_of) (C8.fnScope s_one_of) .none kV_one_of dc_one_of pm_one_of an_one_of cd_one_of ct_one_of) := ⟨oc_one_of, od_one_of, .none, kV_one_of, dc_one_of, pm_one_of, an_one_of, cd_one_of, ct_one_of, sl_one_of, rfl, l_one_of, c_one_of⟩
  have F_one_of : C8.Def K mg "_law_one_of" s_one_of f_one_of _ := ⟨U_one_of, PySem.W.mg_of X G a_one_of, k_one_of⟩
  have b_one_of := U_one_of.binds rfl (ps := ["box", "some"]) fun _ _ _ _ _ _ us hl => match us, hl with | [_, _], _ => rfl
  have U_seed : C8.Fun K "_law_seed" "_law_seed" s_seed f_seed (PySem.W.fnOf "_law_seed" "_law_seed" (C8.fnArgs s_seed) (C8.fnBody s_seed) (C8.fnScope s_seed) .none kV_seed dc_seed pm_seed an_seed cd_seed ct_seed) := ⟨oc_seed, od_seed, .none, kV_seed, dc_seed, pm_seed, an_seed, cd_seed, ct_seed, sl_seed, rfl, l_seed, c_seed⟩
  have F_seed : C8.Def K mg "_law_seed" s_seed f_seed _ := ⟨U_seed, PySem.W.mg_of X G a_seed, k_seed⟩
  have b_seed := U_seed.binds rfl (ps := ["script", "k"]) fun _ _ _ _ _ _ us hl => match us, hl with | [_, _], _ => rfl
  have U_signs : C8.Fun K "_law_signs" "_law_signs" s_signs f_signs (PySem.W.fnOf "_law_signs" "_law_signs" (C8.fnArgs s_signs) (C8.fnBody s_signs) (C8.fnScope s_signs) .none kV_signs dc_signs pm_signs an_signs cd_signs ct_signs) := ⟨oc_signs, od_signs, .none, kV_signs, dc_signs, pm_signs, an_signs, cd_signs, ct_signs, sl_signs, rfl, l_signs, c_signs⟩
  have F_signs : C8.Def K mg "_law_signs" s_signs f_signs _ := ⟨U_signs, PySem.W.mg_of X G a_signs, k_signs⟩
  have b_signs := U_signs.binds rfl (ps := ["box"]) fun _ _ _ _ _ _ us hl => match us, hl with | [_], _ => rfl
  have U_row : C8.Fun K "_law_row" "_law_row" s_row f_row (PySem.W.fnOf "_law_row" "_law_row" (C8.fnArgs s_row) (C8.fnBody s_row) (C8.fnScope s_row) .none kV_row dc_row pm_row an_row cd_row ct_row) := ⟨oc_row, od_row, .none, kV_row, dc_row, pm_row, an_row, cd_row, ct_row, sl_row, rfl, l_row, c_row⟩
  have F_row : C8.Def K mg "_law_row" s_row f_row _ := ⟨U_row, PySem.W.mg_of X G a_row, k_row⟩
  have b_row := U_row.binds rfl (ps := ["box", "signs", "most"]) fun _ _ _ _ _ _ us hl => match us, hl with | [_, _, _], _ => rfl
  have U_images : C8.Fun K "_law_images" "_law_images" s_images f_images (PySem.W.fnOf "_law_images" "_law_images" (C8.fnArgs s_images) (C8.fnBody s_images) (C8.fnScope s_images) .none kV_images dc_images pm_images an_images cd_images ct_images) := ⟨oc_images, od_images, .none, kV_images, dc_images, pm_images, an_images, cd_images, ct_images, sl_images, rfl, l_images, c_images⟩
  have F_images : C8.Def K mg "_law_images" s_images f_images _ := ⟨U_images, PySem.W.mg_of X G a_images, k_images⟩
  have b_images := U_images.binds rfl (ps := ["box", "signs", "most"]) fun _ _ _ _ _ _ us hl => match us, hl with | [_, _, _], _ => rfl
  have U_any : C8.Fun K "_law_any" "_law_any" s_any f_any (PySem.W.fnOf "_law_any" "_law_any" (C8.fnArgs s_any) (C8.fnBody s_any) (C8.fnScope s_any) .none kV_any dc_any pm_any an_any cd_any ct_any) := ⟨oc_any, od_any, .none, kV_any, dc_any, pm_any, an_any, cd_any, ct_any, sl_any, rfl, l_any, c_any⟩
  have F_any : C8.Def K mg "_law_any" s_any f_any _ := ⟨U_any, PySem.W.mg_of X G a_any, k_any⟩
  have b_any := U_any.binds rfl (ps := ["box", "deep"]) fun _ _ _ _ _ _ us hl => match us, hl with | [_, _], _ => rfl
  have U_isseq : C8.Fun K "is_sequence" "is_sequence" s_isseq f_isseq (PySem.W.fnOf "is_sequence" "is_sequence" (C8.fnArgs s_isseq) (C8.fnBody s_isseq) (C8.fnScope s_isseq) .none kV_isseq dc_isseq pm_isseq an_isseq cd_isseq ct_isseq) := ⟨oc_isseq, od_isseq, .none, kV_isseq, dc_isseq, pm_isseq, an_isseq, cd_isseq, ct_isseq, sl_isseq, rfl, l_isseq, c_isseq⟩
  have F_isseq : C8.Def K mg "is_sequence" s_isseq f_isseq _ := ⟨U_isseq, PySem.W.mg_of X G a_isseq, k_isseq⟩
  have b_isseq := U_isseq.binds rfl (ps := ["value"]) fun _ _ _ _ _ _ us hl => match us, hl with | [_], _ => rfl
  have U_isrow : C8.Fun K "is_row" "is_row" s_isrow f_isrow (PySem.W.fnOf "is_row" "is_row" (C8.fnArgs s_isrow) (C8.fnBody s_isrow) (C8.fnScope s_isrow) .none kV_isrow dc_isrow pm_isrow an_isrow cd_isrow ct_isrow) := ⟨oc_isrow, od_isrow, .none, kV_isrow, dc_isrow, pm_isrow, an_isrow, cd_isrow, ct_isrow, sl_isrow, rfl, l_isrow, c_isrow⟩
  have F_isrow : C8.Def K mg "is_row" s_isrow f_isrow _ := ⟨U_isrow, PySem.W.mg_of X G a_isrow, k_isrow⟩
  have b_isrow := U_isrow.binds rfl (ps := ["value", "signs"]) fun _ _ _ _ _ _ us hl => match us, hl with | [_, _], _ => rfl
  have U_isletters : C8.Fun K "is_letters" "is_letters" s_isletters f_isletters (PySem.W.fnOf "is_letters" "is_letters" (C8.fnArgs s_isletters) (C8.fnBody s_isletters) (C8.fnScope s_isletters) .none kV_isletters dc_isletters pm_isletters an_isletters cd_isletters ct_isletters) := ⟨oc_isletters, od_isletters, .none, kV_isletters, dc_isletters, pm_isletters, an_isletters, cd_isletters, ct_isletters, sl_isletters, rfl, l_isletters, c_isletters⟩
  have F_isletters : C8.Def K mg "is_letters" s_isletters f_isletters _ := ⟨U_isletters, PySem.W.mg_of X G a_isletters, k_isletters⟩
  have b_isletters := U_isletters.binds rfl (ps := ["value"]) fun _ _ _ _ _ _ us hl => match us, hl with | [_], _ => rfl
  have U_issigns : C8.Fun K "is_signs" "is_signs" s_issigns f_issigns (PySem.W.fnOf "is_signs" "is_signs" (C8.fnArgs s_issigns) (C8.fnBody s_issigns) (C8.fnScope s_issigns) .none kV_issigns dc_issigns pm_issigns an_issigns cd_issigns ct_issigns) := ⟨oc_issigns, od_issigns, .none, kV_issigns, dc_issigns, pm_issigns, an_issigns, cd_issigns, ct_issigns, sl_issigns, rfl, l_issigns, c_issigns⟩
  have F_issigns : C8.Def K mg "is_signs" s_issigns f_issigns _ := ⟨U_issigns, PySem.W.mg_of X G a_issigns, k_issigns⟩
  have b_issigns := U_issigns.binds rfl (ps := ["value"]) fun _ _ _ _ _ _ us hl => match us, hl with | [_], _ => rfl
  have U_isrows : C8.Fun K "is_rows" "is_rows" s_isrows f_isrows (PySem.W.fnOf "is_rows" "is_rows" (C8.fnArgs s_isrows) (C8.fnBody s_isrows) (C8.fnScope s_isrows) .none kV_isrows dc_isrows pm_isrows an_isrows cd_isrows ct_isrows) := ⟨oc_isrows, od_isrows, .none, kV_isrows, dc_isrows, pm_isrows, an_isrows, cd_isrows, ct_isrows, sl_isrows, rfl, l_isrows, c_isrows⟩
  have F_isrows : C8.Def K mg "is_rows" s_isrows f_isrows _ := ⟨U_isrows, PySem.W.mg_of X G a_isrows, k_isrows⟩
  have b_isrows := U_isrows.binds rfl (ps := ["value", "signs"]) fun _ _ _ _ _ _ us hl => match us, hl with | [_, _], _ => rfl
  have U_tupof : C8.Fun K "is_tuple_of" "is_tuple_of" s_tupof f_tupof (PySem.W.fnOf "is_tuple_of" "is_tuple_of" (C8.fnArgs s_tupof) (C8.fnBody s_tupof) (C8.fnScope s_tupof) .none kV_tupof dc_tupof pm_tupof an_tupof cd_tupof ct_tupof) := ⟨oc_tupof, od_tupof, .none, kV_tupof, dc_tupof, pm_tupof, an_tupof, cd_tupof, ct_tupof, sl_tupof, rfl, l_tupof, c_tupof⟩
  have F_tupof : C8.Def K mg "is_tuple_of" s_tupof f_tupof _ := ⟨U_tupof, PySem.W.mg_of X G a_tupof, k_tupof⟩
  have b_tupof := U_tupof.binds rfl (ps := ["value", "many"]) fun _ _ _ _ _ _ us hl => match us, hl with | [_, _], _ => rfl
  have U_init : C8.Fun K "__init__" "Change.__init__" s_init f_init (PySem.W.fnOf "__init__" "Change.__init__" (C8.fnArgs s_init) (C8.fnBody s_init) (C8.fnScope s_init) .none kV_init dc_init pm_init an_init cd_init ct_init) := ⟨oc_init, od_init, .none, kV_init, dc_init, pm_init, an_init, cd_init, ct_init, sl_init, rfl, l_init, c_init⟩
  have me_init : Meth K C_Change "__init__" f_init := ⟨a_init, i_init, k_init⟩
  have b_init := U_init.binds rfl (ps := ["self", "signs", "rows"]) fun _ _ _ _ _ _ us hl => match us, hl with | [_, _, _], _ => rfl
  have U_xic : C8.Fun K "__init__" "InvalidChange.__init__" s_xic f_xic (PySem.W.fnOf "__init__" "InvalidChange.__init__" (C8.fnArgs s_xic) (C8.fnBody s_xic) (C8.fnScope s_xic) .none kV_xic dc_xic pm_xic an_xic cd_xic ct_xic) := ⟨oc_xic, od_xic, .none, kV_xic, dc_xic, pm_xic, an_xic, cd_xic, ct_xic, sl_xic, rfl, l_xic, c_xic⟩
  have me_xic : Meth K C_InvalidChange "__init__" f_xic := ⟨a_xic, i_xic, k_xic⟩
  have b_xic := U_xic.binds rfl (ps := ["self", "word"]) fun _ _ _ _ _ _ us hl => match us, hl with | [_, _], _ => rfl
  have U_of : C8.Fun K "of" "Change.of" s_of f_of (PySem.W.fnOf "of" "Change.of" (C8.fnArgs s_of) (C8.fnBody s_of) (C8.fnScope s_of) .none kV_of dc_of pm_of an_of cd_of ct_of) := ⟨oc_of, od_of, .none, kV_of, dc_of, pm_of, an_of, cd_of, ct_of, sl_of, rfl, l_of, c_of⟩
  have me_of : Meth K C_Change "of" f_of := ⟨a_of, i_of, k_of⟩
  have b_of := U_of.binds rfl (ps := ["self", "row"]) fun _ _ _ _ _ _ us hl => match us, hl with | [_, _], _ => rfl
  have U_first : C8.Fun K "_first_rests" "_first_rests" s_first f_first (PySem.W.fnOf "_first_rests" "_first_rests" (C8.fnArgs s_first) (C8.fnBody s_first) (C8.fnScope s_first) .none kV_first dc_first pm_first an_first cd_first ct_first) := ⟨oc_first, od_first, .none, kV_first, dc_first, pm_first, an_first, cd_first, ct_first, sl_first, rfl, l_first, c_first⟩
  have F_first : C8.Def K mg "_first_rests" s_first f_first _ := ⟨U_first, PySem.W.mg_of X G a_first, k_first⟩
  have b_first := U_first.binds rfl (ps := ["change"]) fun _ _ _ _ _ _ us hl => match us, hl with | [_], _ => rfl
  have U_next : C8.Fun K "_next_rests" "_next_rests" s_next f_next (PySem.W.fnOf "_next_rests" "_next_rests" (C8.fnArgs s_next) (C8.fnBody s_next) (C8.fnScope s_next) .none kV_next dc_next pm_next an_next cd_next ct_next) := ⟨oc_next, od_next, .none, kV_next, dc_next, pm_next, an_next, cd_next, ct_next, sl_next, rfl, l_next, c_next⟩
  have F_next : C8.Def K mg "_next_rests" s_next f_next _ := ⟨U_next, PySem.W.mg_of X G a_next, k_next⟩
  have b_next := U_next.binds rfl (ps := ["change", "rest", "longer", "shorter"]) fun _ _ _ _ _ _ us hl => match us, hl with | [_, _, _, _], _ => rfl
  have U_ways : C8.Fun K "_ways_to_rests" "_ways_to_rests" s_ways f_ways (PySem.W.fnOf "_ways_to_rests" "_ways_to_rests" (C8.fnArgs s_ways) (C8.fnBody s_ways) (C8.fnScope s_ways) .none kV_ways dc_ways pm_ways an_ways cd_ways ct_ways) := ⟨oc_ways, od_ways, .none, kV_ways, dc_ways, pm_ways, an_ways, cd_ways, ct_ways, sl_ways, rfl, l_ways, c_ways⟩
  have F_ways : C8.Def K mg "_ways_to_rests" s_ways f_ways _ := ⟨U_ways, PySem.W.mg_of X G a_ways, k_ways⟩
  have b_ways := U_ways.binds rfl (ps := ["change"]) fun _ _ _ _ _ _ us hl => match us, hl with | [_], _ => rfl
  have U_rests : C8.Fun K "rests" "rests" s_rests f_rests (PySem.W.fnOf "rests" "rests" (C8.fnArgs s_rests) (C8.fnBody s_rests) (C8.fnScope s_rests) .none kV_rests dc_rests pm_rests an_rests cd_rests ct_rests) := ⟨oc_rests, od_rests, .none, kV_rests, dc_rests, pm_rests, an_rests, cd_rests, ct_rests, sl_rests, rfl, l_rests, c_rests⟩
  have F_rests : C8.Def K mg "rests" s_rests f_rests _ := ⟨U_rests, PySem.W.mg_of X G a_rests, k_rests⟩
  have b_rests := U_rests.binds rfl (ps := ["change"]) fun _ _ _ _ _ _ us hl => match us, hl with | [_], _ => rfl
  have U_clash : C8.Fun K "clash" "clash" s_clash f_clash (PySem.W.fnOf "clash" "clash" (C8.fnArgs s_clash) (C8.fnBody s_clash) (C8.fnScope s_clash) .none kV_clash dc_clash pm_clash an_clash cd_clash ct_clash) := ⟨oc_clash, od_clash, .none, kV_clash, dc_clash, pm_clash, an_clash, cd_clash, ct_clash, sl_clash, rfl, l_clash, c_clash⟩
  have F_clash : C8.Def K mg "clash" s_clash f_clash _ := ⟨U_clash, PySem.W.mg_of X G a_clash, k_clash⟩
  have b_clash := U_clash.binds rfl (ps := ["change"]) fun _ _ _ _ _ _ us hl => match us, hl with | [_], _ => rfl
  have U_clear : C8.Fun K "is_clear" "is_clear" s_clear f_clear (PySem.W.fnOf "is_clear" "is_clear" (C8.fnArgs s_clear) (C8.fnBody s_clear) (C8.fnScope s_clear) .none kV_clear dc_clear pm_clear an_clear cd_clear ct_clear) := ⟨oc_clear, od_clear, .none, kV_clear, dc_clear, pm_clear, an_clear, cd_clear, ct_clear, sl_clear, rfl, l_clear, c_clear⟩
  have F_clear : C8.Def K mg "is_clear" s_clear f_clear _ := ⟨U_clear, PySem.W.mg_of X G a_clear, k_clear⟩
  have b_clear := U_clear.binds rfl (ps := ["change"]) fun _ _ _ _ _ _ us hl => match us, hl with | [_], _ => rfl
  have U_holds : C8.Fun K "clash_holds" "clash_holds" s_holds f_holds (PySem.W.fnOf "clash_holds" "clash_holds" (C8.fnArgs s_holds) (C8.fnBody s_holds) (C8.fnScope s_holds) .none kV_holds dc_holds pm_holds an_holds cd_holds ct_holds) := ⟨oc_holds, od_holds, .none, kV_holds, dc_holds, pm_holds, an_holds, cd_holds, ct_holds, sl_holds, rfl, l_holds, c_holds⟩
  have F_holds : C8.Def K mg "clash_holds" s_holds f_holds _ := ⟨U_holds, PySem.W.mg_of X G a_holds, k_holds⟩
  have b_holds := U_holds.binds rfl (ps := ["change", "value"]) fun _ _ _ _ _ _ us hl => match us, hl with | [_, _], _ => rfl
  have U_image : C8.Fun K "_law_image" "_law_image" s_image f_image (PySem.W.fnOf "_law_image" "_law_image" (C8.fnArgs s_image) (C8.fnBody s_image) (C8.fnScope s_image) .none kV_image dc_image pm_image an_image cd_image ct_image) := ⟨oc_image, od_image, .none, kV_image, dc_image, pm_image, an_image, cd_image, ct_image, sl_image, rfl, l_image, c_image⟩
  have F_image : C8.Def K mg "_law_image" s_image f_image _ := ⟨U_image, PySem.W.mg_of X G a_image, k_image⟩
  have b_image := U_image.binds rfl (ps := ["signs", "images", "row"]) fun _ _ _ _ _ _ us hl => match us, hl with | [_, _, _], _ => rfl
  have U_behind : C8.Fun K "_law_behind" "_law_behind" s_behind f_behind (PySem.W.fnOf "_law_behind" "_law_behind" (C8.fnArgs s_behind) (C8.fnBody s_behind) (C8.fnScope s_behind) .none kV_behind dc_behind pm_behind an_behind cd_behind ct_behind) := ⟨oc_behind, od_behind, .none, kV_behind, dc_behind, pm_behind, an_behind, cd_behind, ct_behind, sl_behind, rfl, l_behind, c_behind⟩
  have F_behind : C8.Def K mg "_law_behind" s_behind f_behind _ := ⟨U_behind, PySem.W.mg_of X G a_behind, k_behind⟩
  have b_behind := U_behind.binds rfl (ps := ["row", "begin"]) fun _ _ _ _ _ _ us hl => match us, hl with | [_, _], _ => rfl
  have U_rows : C8.Fun K "_law_rows" "_law_rows" s_rows f_rows (PySem.W.fnOf "_law_rows" "_law_rows" (C8.fnArgs s_rows) (C8.fnBody s_rows) (C8.fnScope s_rows) .none kV_rows dc_rows pm_rows an_rows cd_rows ct_rows) := ⟨oc_rows, od_rows, .none, kV_rows, dc_rows, pm_rows, an_rows, cd_rows, ct_rows, sl_rows, rfl, l_rows, c_rows⟩
  have F_rows : C8.Def K mg "_law_rows" s_rows f_rows _ := ⟨U_rows, PySem.W.mg_of X G a_rows, k_rows⟩
  have b_rows := U_rows.binds rfl (ps := ["signs", "most"]) fun _ _ _ _ _ _ us hl => match us, hl with | [_, _], _ => rfl
  have U_lrests : C8.Fun K "_law_rests" "_law_rests" s_lrests f_lrests (PySem.W.fnOf "_law_rests" "_law_rests" (C8.fnArgs s_lrests) (C8.fnBody s_lrests) (C8.fnScope s_lrests) .none kV_lrests dc_lrests pm_lrests an_lrests cd_lrests ct_lrests) := ⟨oc_lrests, od_lrests, .none, kV_lrests, dc_lrests, pm_lrests, an_lrests, cd_lrests, ct_lrests, sl_lrests, rfl, l_lrests, c_lrests⟩
  have F_lrests : C8.Def K mg "_law_rests" s_lrests f_lrests _ := ⟨U_lrests, PySem.W.mg_of X G a_lrests, k_lrests⟩
  have b_lrests := U_lrests.binds rfl (ps := ["images"]) fun _ _ _ _ _ _ us hl => match us, hl with | [_], _ => rfl
  have U_told : C8.Fun K "_law_told_right" "_law_told_right" s_told f_told (PySem.W.fnOf "_law_told_right" "_law_told_right" (C8.fnArgs s_told) (C8.fnBody s_told) (C8.fnScope s_told) .none kV_told dc_told pm_told an_told cd_told ct_told) := ⟨oc_told, od_told, .none, kV_told, dc_told, pm_told, an_told, cd_told, ct_told, sl_told, rfl, l_told, c_told⟩
  have F_told : C8.Def K mg "_law_told_right" s_told f_told _ := ⟨U_told, PySem.W.mg_of X G a_told, k_told⟩
  have b_told := U_told.binds rfl (ps := ["signs", "images", "made", "is_good"]) fun _ _ _ _ _ _ us hl => match us, hl with | [_, _, _, _], _ => rfl
  have U_others : C8.Fun K "_law_others_right" "_law_others_right" s_others f_others (PySem.W.fnOf "_law_others_right" "_law_others_right" (C8.fnArgs s_others) (C8.fnBody s_others) (C8.fnScope s_others) .none kV_others dc_others pm_others an_others cd_others ct_others) := ⟨oc_others, od_others, .none, kV_others, dc_others, pm_others, an_others, cd_others, ct_others, sl_others, rfl, l_others, c_others⟩
  have F_others : C8.Def K mg "_law_others_right" s_others f_others _ := ⟨U_others, PySem.W.mg_of X G a_others, k_others⟩
  have b_others := U_others.binds rfl (ps := ["box", "signs", "images", "made"]) fun _ _ _ _ _ _ us hl => match us, hl with | [_, _, _, _], _ => rfl
  have U_law : C8.Fun K "law" "law" s_law fa (PySem.W.fnOf "law" "law" (C8.fnArgs s_law) (C8.fnBody s_law) (C8.fnScope s_law) .none kV_law dc_law pm_law an_law cd_law ct_law) := ⟨oc_law, od_law, .none, kV_law, dc_law, pm_law, an_law, cd_law, ct_law, sl_law, rfl, l_law, c_law⟩
  have F_law : C8.Def K mg "law" s_law fa _ := ⟨U_law, PySem.W.mg_of X G a_law, k_law⟩
  have b_law := U_law.binds rfl (ps := ["script"]) fun _ _ _ _ _ _ us hl => match us, hl with | [_], _ => rfl
  have Cl_Change : Cls K C_Change := ⟨pg_Change, hd_Change, po_Change, sa_Change⟩
  have mg_Change := PySem.W.mg_of X G g_Change
  have M_Change : Mk K C_Change f_init := ⟨mk_Change, a_init, i_init, kc_Change⟩
  refine ⟨PySem.W.fnOf "law" "law" (C8.fnArgs s_law) (C8.fnBody s_law) (C8.fnScope s_law) .none kV_law dc_law pm_law an_law cd_law ct_law, fun s v => .of_eq rfl, fun base _ _ => ?_⟩
  have CH : CC K C_Change := ⟨Cl_Change, n_Change_signs, n_Change_rows⟩
  have c_choose := ok_choose (P := l.prog) (w := w) (base := base) T F_choose b_choose
  have c_one_of := ok_one T c_choose F_one_of b_one_of
  have c_seed := ok_seed (P := l.prog) (w := w) (base := base) T F_seed b_seed
  have c_signs := ok_signs T c_one_of F_signs b_signs
  have c_row := ok_row T c_choose c_one_of F_row b_row
  have c_images := ok_images T c_choose c_one_of c_row F_images b_images
  have c_any := ok_any T c_choose c_one_of F_any b_any 6
  have c_isseq := ok_isseqD (P := l.prog) (w := w) (base := base) T F_isseq b_isseq
  have c_isrow := ok_isrowD (P := l.prog) (w := w) (base := base) T F_isrow b_isrow
  have c_isletters := ok_islettersD T mg_az c_isrow F_isletters b_isletters
  have c_issigns := ok_issignsD T c_isletters F_issigns b_issigns
  have c_isrows := ok_isrowsD T c_isseq c_isrow F_isrows b_isrows
  have x_IC : XQ K mg "InvalidChange" C_InvalidChange := ⟨xc_InvalidChange, PySem.W.mg_of X G xg_InvalidChange⟩
  have c_IC := ok_xic (P := l.prog) (w := w) (base := base) x_IC xf_InvalidChange a_xic (beq_iff_eq.mp i_xic) U_xic b_xic
  have c_Change := ok_makeA T CH c_IC c_issigns c_isrows M_Change mg_Change U_init b_init
  have c_tupof := ok_tupof (P := l.prog) (w := w) (base := base) T F_tupof b_tupof
  have c_of := ok_of (P := l.prog) (w := w) (base := base) T CH me_of U_of b_of
  have c_holds := ok_holds T CH c_of c_tupof c_isrows F_holds b_holds
  have c_image := ok_image (P := l.prog) (w := w) (base := base) T F_image b_image
  have c_behind := ok_behind (P := l.prog) (w := w) (base := base) T F_behind b_behind
  have c_first := ok_first (P := l.prog) (w := w) (base := base) T CH F_first b_first
  have c_next := ok_next (P := l.prog) (w := w) (base := base) T CH F_next b_next
  have c_ways := ok_ways T CH c_first c_next F_ways b_ways
  have c_rests := ok_rests T CH c_ways F_rests b_rests
  have c_clash := ok_clash T CH c_ways F_clash b_clash
  have c_clear := ok_clear T c_clash F_clear b_clear
  have c_rows := ok_rows (P := l.prog) (w := w) (base := base) T F_rows b_rows
  have c_lrests := ok_lrests T c_behind F_lrests b_lrests
  have c_told := ok_told T c_clash c_holds c_image F_told b_told
  have c_others := ok_others T c_row c_holds c_image c_any F_others b_others
  exact ok_law T CH c_seed c_signs c_images c_Change c_lrests c_rests c_clear c_told c_rows c_image c_holds c_others F_law
theorem walk {l : PySem.W.OpenLaw} {q : Program} {loose : List Str} {XP : (Str → Option Value) → Heap → Prop} {YP : World → Heap → Prop} {d : DefRec} {K : Params → PySem.W.Frag} (hn : l.most = some 63) (hdf : d.params.defaults = [])
    (hY : ∀ (w : World) (h : Heap), YP w h → (K w.params).In h)
    (F : ∀ (w : World) (mg : Str → Option Value) (fa : Addr) (h : Heap), (K w.params).In h → h.Ns mainGlobals mg → mg d.name = some (.ref fa) →
      ∃ fd : FuncData, (∀ (s : Shared) (u : Value), BindsTo s fd ⟨[u], []⟩ [("script", u)]) ∧ ∀ base : Heap, (K w.params).In base → base.Ns mainGlobals mg → FnG l.prog w (K w.params) mg base 11 fa fd ["script"] (spLaw (K w.params))) :
    PySem.W.WalkO q loose XP YP l.row.toRowW d [] (fun f vs => PySem.call f vs) :=
  walkG (n := 63) (k := 11) (x := "script") (sp := fun K => spLaw K) hn (by decide) hdf ⟨rfl, by decide, by decide⟩ hY F fun _ _ a ns hl _ hS => ⟨a, ns, rfl, hS, hl, fun _ => rfl⟩
end Toy
open PySem PySem.W PyProof.Rows in
set_option maxRecDepth 100000 in
set_option maxHeartbeats 0 in
theorem PySem.Challenge.cw_allrows_k04_clear_changes_holds : PySem.Challenge.rw_allrows_k04_clear_changes.Holds := by
  w_on; o_law; k_head; (case hw => w_witness2)
  k_fill
  refine Toy.walk (l := PySem.Challenge.rw_allrows_k04_clear_changes) rfl rfl (fun w h Y => PySem.W.kIn_of Y) ?F
  case F =>
    intro w mg fa h KX G hmg
    refine' Toy.all_mk KX G hmg ?q_az ?g_Change ?pg_Change ?hd_Change ?po_Change ?sa_Change ?kc_Change ?n_Change_signs ?n_Change_rows ?mk_Change ?xg_InvalidChange ?xc_InvalidChange ?xf_InvalidChange ?a_choose ?l_choose ?c_choose ?k_choose ?a_one_of ?l_one_of ?c_one_of ?k_one_of ?a_seed ?l_seed ?c_seed ?k_seed ?a_signs ?l_signs ?c_signs ?k_signs ?a_row ?l_row ?c_row ?k_row ?a_images ?l_images ?c_images ?k_images ?a_any ?l_any ?c_any ?k_any ?a_isseq ?l_isseq ?c_isseq ?k_isseq ?a_isrow ?l_isrow ?c_isrow ?k_isrow ?a_isletters ?l_isletters ?c_isletters ?k_isletters ?a_issigns ?l_issigns ?c_issigns ?k_issigns ?a_isrows ?l_isrows ?c_isrows ?k_isrows ?a_tupof ?l_tupof ?c_tupof ?k_tupof ?a_init ?i_init ?l_init ?c_init ?k_init ?a_xic ?i_xic ?l_xic ?c_xic ?k_xic ?a_of ?i_of ?l_of ?c_of ?k_of ?a_first ?l_first ?c_first ?k_first ?a_next ?l_next ?c_next ?k_next ?a_ways ?l_ways ?c_ways ?k_ways ?a_rests ?l_rests ?c_rests ?k_rests ?a_clash ?l_clash ?c_clash ?k_clash ?a_clear ?l_clear ?c_clear ?k_clear ?a_holds ?l_holds ?c_holds ?k_holds ?a_image ?l_image ?c_image ?k_image ?a_behind ?l_behind ?c_behind ?k_behind ?a_rows ?l_rows ?c_rows ?k_rows ?a_lrests ?l_lrests ?c_lrests ?k_lrests ?a_told ?l_told ?c_told ?k_told ?a_others ?l_others ?c_others ?k_others ?a_law ?l_law ?c_law ?k_law ?z_int ?z_len ?z_abs ?z_str ?z_list ?z_tuple ?z_isinstance ?z_all ?z_zip ?z_range ?z_max ?z_min ?z_repr ?z_sorted ?z_set ?z_enumerate ?z_dict
    (case q_az => k_is)
    (case g_Change => k_is)
    (case pg_Change => k_is)
    (case hd_Change => k_is)
    (case po_Change => k_is)
    (case sa_Change => k_is)
    (case kc_Change => k_is)
    (case n_Change_signs => k_is)
    (case n_Change_rows => k_is)
    (case mk_Change => k_is)
    (case xg_InvalidChange => k_is)
    (case xc_InvalidChange => exact LX.XC.ve (by show PySem.W.excInitIn _ _ [.type "ValueError", .type "Exception", .type "BaseException", .type "object"] "ValueError.__new__" = true; kx_is) (by k_is) (by k_is) (by k_is) (by k_is) (by k_is) (by k_is) (by k_is) (by k_is) (by k_is) (by k_is) (by k_is))
    (case xf_InvalidChange => k_is)
    (case a_choose => k_is)
    (case l_choose => k_is)
    (case c_choose => k_is)
    (case k_choose => k_is)
    (case a_one_of => k_is)
    (case l_one_of => k_is)
    (case c_one_of => k_is)
    (case k_one_of => k_is)
    (case a_seed => k_is)
    (case l_seed => k_is)
    (case c_seed => k_is)
    (case k_seed => k_is)
    (case a_signs => k_is)
    (case l_signs => k_is)
    (case c_signs => k_is)
    (case k_signs => k_is)
    (case a_row => k_is)
    (case l_row => k_is)
    (case c_row => k_is)
    (case k_row => k_is)
    (case a_images => k_is)
    (case l_images => k_is)
    (case c_images => k_is)
    (case k_images => k_is)
    (case a_any => k_is)
    (case l_any => k_is)
    (case c_any => k_is)
    (case k_any => k_is)
    (case a_isseq => k_is)
    (case l_isseq => k_is)
    (case c_isseq => k_is)
    (case k_isseq => k_is)
    (case a_isrow => k_is)
    (case l_isrow => k_is)
    (case c_isrow => k_is)
    (case k_isrow => k_is)
    (case a_isletters => k_is)
    (case l_isletters => k_is)
    (case c_isletters => k_is)
    (case k_isletters => k_is)
    (case a_issigns => k_is)
    (case l_issigns => k_is)
    (case c_issigns => k_is)
    (case k_issigns => k_is)
    (case a_isrows => k_is)
    (case l_isrows => k_is)
    (case c_isrows => k_is)
    (case k_isrows => k_is)
    (case a_tupof => k_is)
    (case l_tupof => k_is)
    (case c_tupof => k_is)
    (case k_tupof => k_is)
    (case a_init => k_is)
    (case i_init => k_is)
    (case l_init => k_is)
    (case c_init => k_is)
    (case k_init => k_is)
    (case a_xic => k_is)
    (case i_xic => k_is)
    (case l_xic => k_is)
    (case c_xic => k_is)
    (case k_xic => k_is)
    (case a_of => k_is)
    (case i_of => k_is)
    (case l_of => k_is)
    (case c_of => k_is)
    (case k_of => k_is)
    (case a_first => k_is)
    (case l_first => k_is)
    (case c_first => k_is)
    (case k_first => k_is)
    (case a_next => k_is)
    (case l_next => k_is)
    (case c_next => k_is)
    (case k_next => k_is)
    (case a_ways => k_is)
    (case l_ways => k_is)
    (case c_ways => k_is)
    (case k_ways => k_is)
    (case a_rests => k_is)
    (case l_rests => k_is)
    (case c_rests => k_is)
    (case k_rests => k_is)
    (case a_clash => k_is)
    (case l_clash => k_is)
    (case c_clash => k_is)
    (case k_clash => k_is)
    (case a_clear => k_is)
    (case l_clear => k_is)
    (case c_clear => k_is)
    (case k_clear => k_is)
    (case a_holds => k_is)
    (case l_holds => k_is)
    (case c_holds => k_is)
    (case k_holds => k_is)
    (case a_image => k_is)
    (case l_image => k_is)
    (case c_image => k_is)
    (case k_image => k_is)
    (case a_behind => k_is)
    (case l_behind => k_is)
    (case c_behind => k_is)
    (case k_behind => k_is)
    (case a_rows => k_is)
    (case l_rows => k_is)
    (case c_rows => k_is)
    (case k_rows => k_is)
    (case a_lrests => k_is)
    (case l_lrests => k_is)
    (case c_lrests => k_is)
    (case k_lrests => k_is)
    (case a_told => k_is)
    (case l_told => k_is)
    (case c_told => k_is)
    (case k_told => k_is)
    (case a_others => k_is)
    (case l_others => k_is)
    (case c_others => k_is)
    (case k_others => k_is)
    (case a_law => k_is)
    (case l_law => k_is)
    (case c_law => k_is)
    (case k_law => k_is)
    (case z_int => k_is)
    (case z_len => k_is)
    (case z_abs => k_is)
    (case z_str => k_is)
    (case z_list => k_is)
    (case z_tuple => k_is)
    (case z_isinstance => k_is)
    (case z_all => k_is)
    (case z_zip => k_is)
    (case z_range => k_is)
    (case z_max => k_is)
    (case z_min => k_is)
    (case z_repr => k_is)
    (case z_sorted => k_is)
    (case z_set => k_is)
    (case z_enumerate => k_is)
    (case z_dict => k_is)

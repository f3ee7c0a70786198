import PyProof.Rows.All
import Wide.All
import OpenK.AllK
import Wide.FinOn
import Lean
import PyProof.EqAt
import PyProof.EqKinds
import PyProof.TupleCall
import PySem.Challenge.RW_stonewalker_k57_steps_refused
local macro_rules
 | `(tactic| omega) => `(tactic| lia)
set_option Elab.async false
set_option linter.all false
set_option maxRecDepth 100000
noncomputable section
namespace L2
open PySem PySem.Spec PyProof.Rows
abbrev Key:=Sum Int Str
def kJa:Key->Value->Bool
 | .inl k,v=>Value.isInt k v
 | .inr x,v=>Value.isStrOf x v
def keyH (w:World):Key->Int
 | .inl k=>hashInt k
 | .inr x=>hashStr w x
theorem jJs:∀ {k:Key} {v:Value},kJa k v=true->(∃i t,k=Sum.inl i/\v=Value.int i t)\/(∃x t,k=Sum.inr x/\v=Value.str x t)
 | .inl i,v,h=>by
  obtain⟨t,e⟩:=Value.isInt_shape (k:=i) (v:=v) h
  exact .inl ⟨i,t,rfl,e⟩
 | .inr x,v,h=>by
  obtain⟨t,e⟩:=Value.isStrOf_shape (x:=x) (v:=v) h
  exact .inr ⟨x,t,rfl,e⟩
theorem kV0 (i:Int)(t:Tok):kJa (.inl i) (.int i t)=true:=by simp[kJa,Value.isInt]
theorem kVz (x:Str)(t:Tok):kJa (.inr x) (.str x t)=true:=by simp[kJa,Value.isStrOf]
theorem key_ll (a b:Int):decide ((Sum.inl a:Key)=Sum.inl b)=(a == b):=by
 by_cases e:a=b
 ·subst e;simp
 ·have h:¬ (Sum.inl a:Key)=Sum.inl b:=fun q=>e (Sum.inl.inj q)
  rw[decide_eq_false h]
  exact (beq_eq_false_iff_ne.mpr e).symm
theorem key_rr (a b:Str):decide ((Sum.inr a:Key)=Sum.inr b)=decide (a=b):=by
 by_cases e:a=b
 ·subst e;simp
 ·have h:¬ (Sum.inr a:Key)=Sum.inr b:=fun q=>e (Sum.inr.inj q)
  rw[decide_eq_false h,decide_eq_false e]
theorem key_lr (a:Int)(b:Str):decide ((Sum.inl a:Key)=Sum.inr b)=false:=decide_eq_false (fun q=>nomatch q)
theorem key_rl (a:Str)(b:Int):decide ((Sum.inr a:Key)=Sum.inl b)=false:=decide_eq_false (fun q=>nomatch q)
noncomputable def jJ7 (prog:Program)(w:World):PySem.KeyKind prog w Key where
 is:=kJa
 hash:=keyH w
 inj:=fun v a b ha hb=>by
  rcases jJs ha with ⟨i,t,rfl,rfl⟩ | ⟨x,t,rfl,rfl⟩
  ·rcases jJs hb with ⟨j,u,rfl,e⟩ | ⟨y,u,rfl,e⟩
   ·injection e with e1 _;rw[e1]
   ·exact nomatch e
  ·rcases jJs hb with ⟨j,u,rfl,e⟩ | ⟨y,u,rfl,e⟩
   ·exact nomatch e
   ·injection e with e1 _;rw[e1]
 byValue:=fun k v h=>by
  rcases jJs h with ⟨i,t,rfl,rfl⟩ | ⟨x,t,rfl,rfl⟩<;>rfl
 pyHash:=fun hv h=>by
  rcases jJs hv with ⟨i,t,rfl,rfl⟩ | ⟨x,t,rfl,rfl⟩
  ·exact wpAny_pyHash_int h
  ·exact wpAny_pyHash_str h
 eqBool:=fun hu hv h=>by
  rcases jJs hu with ⟨i,t,rfl,rfl⟩ | ⟨x,t,rfl,rfl⟩
  ·rcases jJs hv with ⟨j,u,rfl,rfl⟩ | ⟨y,u,rfl,rfl⟩
   ·rw[key_ll] at h;exact wpAny_eqBool_int h
   ·rw[key_lr] at h;exact SeqAt.EqAt.int_str i t y u _ _ _ _ h
  ·rcases jJs hv with ⟨j,u,rfl,rfl⟩ | ⟨y,u,rfl,rfl⟩
   ·rw[key_rl] at h;exact SeqAt.EqAt.str_int x t j u _ _ _ _ h
   ·rw[key_rr] at h;exact wpAny_eqBool_str h
 «strs» :=fun k x t v h=>by
  rcases jJs h with ⟨i,u,rfl,e⟩ | ⟨y,u,rfl,e⟩
  ·exact nomatch e
  ·injection e with e1 _
   subst e1
   cases v<;>rfl
theorem kKl (prog:Program)(w:World)(i:Int)(t:Tok):(jJ7 prog w).is (.inl i) (.int i t)=true:=kV0 i t
theorem kKk (prog:Program)(w:World)(x:Str)(t:Tok):(jJ7 prog w).is (.inr x) (.str x t)=true:=kVz x t
end L2
set_option synthInstance.maxSize 1000
namespace L2
open PySem PySem.Spec PyProof.Rows
structure KeyV (prog:Program) (w:World) (K:Type) [DecidableEq K] (c:Nat) where
 is:Heap->K->Value->Prop
 hash:K->Int
 draws:K->Nat
 inj:∀ {h:Heap} {v:Value} {x y:K},is h x v->is h y v->x=y
 keeps:∀ {h h':Heap} {k:K} {v:Value} {d:Addr} {o:Obj} {es:Array DictEntry} {ep:Nat},is h k v->h.get? d=some o->o.data= .dict es ep->Heap.SameBut d h h'->is h' k v
 hashed:∀ {A:Around} {E:Value->Shared->Prop} {s:Shared} {k:K} {v:Value} {Q:Int->Shared->Prop},A.units+c<cLine->is s.heap k v->Q (hash k) {s with toks:=s.toks+draws k}->wpAny (model prog w) A (PySem.pyHash v) Q E s
 eqAt:∀ {A:Around} {s:Shared} {x y:K} {u v:Value},A.units+c<cLine->is s.heap x u->is s.heap y v->SeqAt.EqAt A s u v (decide (x=y))
 quiet:∀ {A:Around} {E:Value->Shared->Prop} {s:Shared} {k:K} {v:Value} {Q:Bool->Shared->Prop} (n:Nat),c<=n->is s.heap k v->Q true s->wpAny (model prog w) A (eqIsQuiet n v) Q E s
noncomputable def kQu (prog:Program)(w:World):KeyV prog w Key 0 where
 is:=fun _ k v=>kJa k v=true
 hash:=keyH w
 draws:=fun _=>1
 inj:=fun hx hy=>(jJ7 prog w).inj _ _ _ hx hy
 keeps:=fun x _ _ _=>x
 hashed:=fun _ hv h=>(jJ7 prog w).pyHash hv h
 eqAt:=fun _ hx hy prog' w' _ _ h=>(jJ7 prog' w').eqBool hx hy h
 quiet:=fun n _ hv h=>by rw[eqIsQuiet_byValue n ((jJ7 prog w).byValue _ _ hv)];exact wpAny_pure h
variable {prog:Program}{w:World}{h h':Heap}{vs:List Value}
section
variable {K:Type}[DecidableEq K]{c:Nat}
inductive ItemsV (V:KeyV prog w K c) (h:Heap):List K->List Value->Prop
 | nil:ItemsV V h [] []
 | cons {k:K} {v:Value} {ks:List K} {vs:List Value}:V.is h k v->ItemsV V h ks vs->ItemsV V h (k::ks) (v::vs)
theorem ItemsV.inj {V:KeyV prog w K c}{x:List K}(hx:ItemsV V h x vs):∀ {y:List K},ItemsV V h y vs->x=y:=by
 induction hx with
 | nil=>intro y hy;cases hy;rfl
 | cons a _ ih=>intro y hy;cases hy with | cons b t=>rw[V.inj a b,ih t]
theorem ItemsV.length {V:KeyV prog w K c}{x:List K}(hx:ItemsV V h x vs):x.length=vs.length:=by
 induction hx with
 | nil=>rfl
 | cons _ _ ih=>simp[ih]
theorem ItemsV.get {V:KeyV prog w K c}{x:List K}(hx:ItemsV V h x vs):∀ {j:Nat} {v:Value},vs[j]? =some v->∃k,x[j]? =some k/\V.is h k v:=by
 induction hx with
 | nil=>intro j v e;simp at e
 | cons a _ ih=>
  intro j v e
  cases j with
  | zero=>simp at e;subst e;exact⟨_,rfl,a⟩
  | succ j=>obtain⟨k,h1,h2⟩:=ih (j:=j) (v:=v) (by simpa using e);exact⟨k,by simpa using h1,h2⟩
theorem ItemsV.keeps {V:KeyV prog w K c}{x:List K}{d:Addr}{o:Obj}{es:Array DictEntry}{ep:Nat}(hx:ItemsV V h x vs)(ho:h.get? d=some o)(hd:o.data= .dict es ep)(hs:Heap.SameBut d h h'):ItemsV V h' x vs:=by
 induction hx with
 | nil=>exact .nil
 | cons a _ ih=>exact .cons (V.keeps a ho hd hs) ih
noncomputable def kYd (V:KeyV prog w K c)(h:Heap)(ks:List K)(v:Value):Prop:=∃(a:Addr) (o:Obj) (items:Array Value) (n:Nat),v= .ref a/\h.get? a=some o/\o.cls= .type "tuple"/\o.data= .seq items n/\ItemsV V h ks items.toList
theorem all_eq:∀(x y:List K),((List.range (min x.length y.length)).all (fun j=>decide (x[j]? =y[j]?))&&x.length == y.length)=decide (x=y):=by
 intro x y
 by_cases e:x=y
 ·subst e;simp
 ·rw[decide_eq_false e,Bool.and_eq_false_iff]
  by_cases l:x.length=y.length
  ·left
   rw[List.all_eq_false]
   have:∃j:Nat,x[j]? ≠y[j]? :=by
    apply Classical.byContradiction
    intro q
    exact e (List.ext_getElem? fun j=>Classical.byContradiction fun z=>q ⟨j,z⟩)
   obtain⟨j,hj⟩:=this
   refine⟨j,List.mem_range.mpr ?_,by simpa using hj⟩
   rcases Nat.lt_or_ge j (min x.length y.length) with z | z
   ·exact z
   ·exact absurd (by rw[List.getElem?_eq_none (by omega),List.getElem?_eq_none (by omega)]) hj
  ·right;simpa using l
noncomputable def jUh (V:KeyV prog w K c):KeyV prog w (List K) (c+2) where
 is:=kYd V
 hash:=fun ks=>reduceHash (Builtin.Tuple.tupleHashOf (ks.map V.hash))
 draws:=fun ks=>(ks.map V.draws).sum+1
 inj:=by
  rintro h v x y ⟨a,o,items,n,rfl,ho,_,hd,hi⟩ ⟨a',o',items',n',e,ho',_,hd',hi'⟩
  cases e
  rw[ho] at ho';cases ho'
  rw[hd] at hd';cases hd'
  exact hi.inj hi'
 keeps:=by
  rintro h h' k v d o es ep ⟨a,o',items,n,rfl,ho',hc,hd',hi⟩ ho hd hs
  have ne:a≠d:=by
   rintro rfl
   rw[ho] at ho';cases ho'
   rw[hd] at hd';cases hd'
  exact⟨a,o',items,n,rfl,(hs.2 a ne).trans ho',hc,hd',hi.keeps ho hd hs⟩
 hashed:=by
  rintro A E s ks v Q hu ⟨a,o,items,n,rfl,ho,hc,hd,hi⟩ h
  refine PySem.W.pyHash_slot (T:="tuple") ⟨o,ho,hc⟩ F.slot_tuple_hash F.entry_tuple_hash (F.args_tuple_hash_1 _) (beq_builtin_none _) (.inr (by omega)) ?_
  refine (show wpAny _ _ (Builtin.Tuple.tupleItemsOf (.ref a) >>= _) _ _ s from wpAny_bind (wpAny_tupleItemsOf ho hd (wpAny_bind ?_)))
  rw[<-Array.forIn_toList]
  refine wpAny_forIn_list _ (fun rest (b:Array Int) z=>∃done left,ks=done++left/\ItemsV V s.heap left rest/\b.toList=done.map V.hash/\z={s with toks:=s.toks+(done.map V.draws).sum}) _ ?_ ?_ _ _ ⟨[],ks,rfl,hi,rfl,rfl⟩
  ·rintro x rest b z ⟨done,left,rfl,hl,hb,rfl⟩
   cases hl with
   | @cons k _ ks' _ h1 hl'=>
    refine wpAny_bind (V.hashed (by rw[Around.in1_units];omega) h1 ?_)
    first
     | exact wpAny_pure ⟨done++[k],ks',by simp,hl',by simp[hb],(by simp[Nat.add_assoc])⟩
     | exact wpAny_bind (wpAny_pure (wpAny_pure ⟨done++[k],ks',by simp,hl',by simp[hb],(by simp[Nat.add_assoc])⟩))
  ·rintro b z ⟨done,left,rfl,hl,hb,rfl⟩
   cases hl
   rw[List.append_nil] at h
   refine (show wpAny _ _ (retInt (Builtin.Tuple.tupleHashOf b.toList)) _ _ _ from ?_)
   rw[hb]
   exact wpAny_bind (wpAny_mkInt (wpAny_pure ⟨_,_,rfl,by simpa[Nat.add_assoc] using h⟩))
 eqAt:=by
  rintro A s x y u v hu ⟨a,o,items,n,rfl,ho,hc,hd,hi⟩ ⟨a',o',items',n',rfl,ho',hc',hd',hi'⟩
  by_cases e:a=a'
  ·subst e
   rw[ho] at ho';cases ho'
   rw[hd] at hd';cases hd'
   rw[hi.inj hi',decide_eq_true rfl]
   exact SeqAt.EqAt.same _
  ·have R:=SeqAt.RcAt.tuples (A:=A) (s:=s) (l:=a) (b:=a') (e:=fun j=>decide (x[j]? =y[j]?)) ⟨o,ho,hc,n,hd⟩ ⟨o',ho',hc',n',hd'⟩ (by omega) (fun j j1 j2=> ?_)
   ·have l1:=hi.length
    have l2:=hi'.length
    rw[<-all_eq x y,l1,l2]
    have R':=SeqAt.EqAt.of_refs e R
    simpa using R'
   ·obtain⟨k,h1,h2⟩:=hi.get (j:=j) (v:=items[j]) (by simp[j1])
    obtain⟨k',h1',h2'⟩:=hi'.get (j:=j) (v:=items'[j]) (by simp[j2])
    have:=V.eqAt (A:=A.in1) (s:=s) (by rw[Around.in1_units];omega) h2 h2'
    rw[h1,h1']
    simpa using this
 quiet:=by
  rintro A E s ks v Q n hn ⟨a,o,items,m,rfl,ho,hc,hd,hi⟩ h
  obtain⟨n,rfl⟩:∃nn,n=nn+1:=⟨n-1,by omega⟩
  have hT:s.TypeIs (.ref a) "tuple":=⟨o,ho,hc⟩
  unfold eqIsQuiet;refine wpAny_bind (wpAny_specialOf hT F.slot_tuple_eq.lookup ?_)
  refine (show wpAny _ _ (isInstance (.ref a) (.type "tuple") >>= _) _ _ s from wpAny_bind (wpAny_isInstance hT isSubtype_tuple_tuple ?_))
  simp only[if_false,Bool.not_true,Bool.false_eq_true]
  refine wpAny_bind (wpAny_seqItems ho hd (wpAny_bind ?_))
  refine (show wpAny _ _ (forIn items _ _) _ _ s from ?_)
  rw[<-Array.forIn_toList]
  refine wpAny_forIn_list _ (fun rest r z=>r.1=none/\z=s/\∃left,ItemsV V s.heap left rest) _ ?_ ?_ _ _ ⟨rfl,rfl,ks,hi⟩
  ·rintro x rest r z ⟨hr,rfl,left,hl⟩
   cases hl with
   | cons h1 hl'=>
    refine wpAny_bind (V.quiet n (by omega) h1 ?_)
    simp only[if_false,Bool.not_true,Bool.false_eq_true]
    exact wpAny_pure ⟨rfl,rfl,_,hl'⟩
  ·rintro⟨r1,r2⟩ z ⟨hr,rfl,_⟩
   simp only at hr;subst hr
   exact wpAny_pure h
theorem qK6 {α β:Type}[DecidableEq α][DecidableEq β](a b:α):decide ((Sum.inl a:α ⊕ β)=Sum.inl b)=decide (a=b):=by
 by_cases e:a=b
 ·simp[e]
 ·rw[decide_eq_false e,decide_eq_false fun z=>e (Sum.inl.inj z)]
theorem qK5 {α β:Type}[DecidableEq α][DecidableEq β](a b:β):decide ((Sum.inr a:α ⊕ β)=Sum.inr b)=decide (a=b):=by
 by_cases e:a=b
 ·simp[e]
 ·rw[decide_eq_false e,decide_eq_false fun z=>e (Sum.inr.inj z)]
noncomputable def sumVK (V:KeyV prog w K c):KeyV prog w (Key ⊕ List K) (c+2) where
 is:=fun h k v=>match k with
  | .inl k=>kJa k v=true
  | .inr ks=>kYd V h ks v
 hash:=fun k=>match k with
  | .inl k=>keyH w k
  | .inr ks=>(jUh V).hash ks
 draws:=fun k=>match k with
  | .inl _=>1
  | .inr ks=>(jUh V).draws ks
 inj:=by
  rintro h v (x | x) (y | y) hx hy
  ·rw[(jJ7 prog w).inj _ _ _ hx hy]
  ·obtain⟨a,_,_,_,rfl,_⟩:=hy
   rcases jJs hx with ⟨i,t,_,e⟩ | ⟨i,t,_,e⟩<;>cases e
  ·obtain⟨a,_,_,_,rfl,_⟩:=hx
   rcases jJs hy with ⟨i,t,_,e⟩ | ⟨i,t,_,e⟩<;>cases e
  ·rw[(jUh V).inj hx hy]
 keeps:=by
  rintro h h' (k | k) v d o es ep hx ho hd hs
  ·exact hx
  ·exact (jUh V).keeps hx ho hd hs
 hashed:=by
  rintro A E s (k | k) v Q hu hx h
  ·exact (jJ7 prog w).pyHash hx h
  ·exact (jUh V).hashed hu hx h
 eqAt:=by
  rintro A s (x | x) (y | y) u v hu hx hy
  ·rw[qK6]
   exact (kQu prog w).eqAt (by omega) hx hy
  ·rw[decide_eq_false fun z=>nomatch z]
   obtain⟨a,o,items,n,rfl,ho,hc,hd,_⟩:=hy
   rcases jJs hx with ⟨i,t,_,rfl⟩ | ⟨i,t,_,rfl⟩
   ·exact SeqAt.EqAt.int_tuple i t ⟨o,ho,hc,n,hd⟩ (by omega)
   ·exact SeqAt.EqAt.str_tuple i t ⟨o,ho,hc,n,hd⟩ (by omega)
  ·rw[decide_eq_false fun z=>nomatch z]
   obtain⟨a,o,items,n,rfl,ho,hc,hd,_⟩:=hx
   rcases jJs hy with ⟨i,t,_,rfl⟩ | ⟨i,t,_,rfl⟩
   ·exact SeqAt.EqAt.tuple_int i t ⟨o,ho,hc,n,hd⟩ (by omega)
   ·exact SeqAt.EqAt.tuple_str i t ⟨o,ho,hc,n,hd⟩ (by omega)
  ·rw[qK5]
   exact (jUh V).eqAt hu hx hy
 quiet:=by
  rintro A E s (k | k) v Q n hn hx h
  ·exact (kQu prog w).quiet n (Nat.zero_le _) hx h
  ·exact (jUh V).quiet n hn hx h
end
abbrev K1:=Key ⊕ List Key
abbrev K2:=Key ⊕ List K1
abbrev TKey:=List K2
def vk1 (prog:Program)(w:World):KeyV prog w K1 2:=sumVK (kQu prog w)
def vk2 (prog:Program)(w:World):KeyV prog w K2 4:=sumVK (vk1 prog w)
noncomputable def jJ2 (prog:Program)(w:World):HeapKind prog w TKey where
 is:=fun h ks a=>(jUh (vk2 prog w)).is h ks (.ref a)
 hash:=(jUh (vk2 prog w)).hash
 draws:=(jUh (vk2 prog w)).draws
 room:=fun A=>A.units+6<cLine
 inj:=fun hx hy=>(jUh (vk2 prog w)).inj hx hy
 keeps:=fun x ho hd hs=>(jUh (vk2 prog w)).keeps x ho hd hs
 pyHash:=fun hu hk h=>(jUh (vk2 prog w)).hashed hu hk h
 eqBool:=fun hu hx hy h=>(jUh (vk2 prog w)).eqAt hu hx hy _ _ _ _ h
 quiet:=fun hk h=>(jUh (vk2 prog w)).quiet 8 (by decide) hk h
variable {A:Around}
theorem jJv (hu:A.units+20<cLine):(jJ2 prog w).room A.in1:=by
 show A.in1.units+6<cLine
 rw[Around.in1_units];omega
inductive V where
 | non | bl (b:Bool) | int (i:Int) | str (x:Str) | byt (b:Array UInt8) | flt (b:UInt64) | ref (a:Addr) | ty (n:String)
 deriving DecidableEq
noncomputable def RelV:V->Value->Prop
 | .non,u=>u=Value.none
 | .bl b,u=>u=Value.bool b
 | .int i,u=>∃t,u=Value.int i t
 | .str x,u=>∃t,u=Value.str x t
 | .byt b,u=>∃t,u=Value.bytes b t
 | .flt b,u=>∃t,u=Value.float b t
 | .ref a,u=>u=Value.ref a
 | .ty n,u=>u=Value.type n
abbrev Vals:List V->List Value->Prop:=Paired RelV
variable {us:List Value}
theorem Vals.length {xs:List V}(r:Vals xs us):xs.length=us.length:=Paired.length r
theorem Vals.get:∀ {xs:List V} {us:List Value} {i:Nat} {x:V},Vals xs us->xs[i]? =some x->∃u,us[i]? =some u/\RelV x u
 | _,_,_,_,.nil,e=>by simp at e
 | _,_,0,_,.cons r _,e=>by simp at e;subst e;exact⟨_,rfl,r⟩
 | _,_,i+1,x,.cons _ t,e=>by
  obtain⟨u,h1,h2⟩:=Vals.get (i:=i) (x:=x) t (by simpa using e)
  exact⟨u,by simpa using h1,h2⟩
theorem Vals.set {x:V} {u:Value} (r:RelV x u):∀ {xs:List V} {us:List Value} (i:Nat),Vals xs us->Vals (xs.set i x) (us.set i u)
 | _,_,_,.nil=> .nil
 | _,_,0,.cons _ t=> .cons r t
 | _,_,i+1,.cons q t=> .cons q (Vals.set r i t)
theorem Vals.append:∀ {xs ys:List V} {us ws:List Value},Vals xs us->Vals ys ws->Vals (xs++ys) (us++ws)
 | _,_,_,_,.nil,s=>s
 | _,_,_,_,.cons r t,s=> .cons r (Vals.append t s)
theorem Vals.take:∀ {xs:List V} {us:List Value} (n:Nat),Vals xs us->Vals (xs.take n) (us.take n)
 | _,_,0,_=> .nil
 | _,_,_+1,.nil=> .nil
 | _,_,n+1,.cons r t=> .cons r (Vals.take n t)
theorem Vals.drop:∀ {xs:List V} {us:List Value} (n:Nat),Vals xs us->Vals (xs.drop n) (us.drop n)
 | _,_,0,r=>r
 | _,_,_+1,.nil=> .nil
 | _,_,n+1,.cons _ t=>Vals.drop n t
def RelO:Option V->Option Value->Prop
 | some v,some u=>RelV v u
 | none,none=>True
 | _,_=>False
def KV {κ:Type}:List (κ×V)->List (κ×Value)->Prop:=Paired fun (p:κ×V) (q:κ×Value)=>p.1=q.1/\RelV p.2 q.2
def kV:Key->V
 | .inl i=> .int i
 | .inr x=> .str x
inductive HO where
  | lst (xs:List V)
  | tup (xs:List V)
  | dK (kvs:List (Key×V)) | dT (kvs:List (TKey×V))
  | set (S:Int->Bool) (n:Nat)
  | ins (C dx:Addr) (fs:List (Str×V))
  | own (x:Addr)
  | xd (fs:List (Str×V))
  | met (f x:Addr)
  | rng (lo hi:Int)
  | frz (o:Obj) (u:HO)
  | tbl (ps:Array Value)
  | ext (φ:Heap->Prop)
abbrev Hp:=Addr->Option HO
def upd (H:Hp)(a:Addr)(o:HO):Hp:=fun b=>if b=a then some o else H b
variable {H:Hp}{a:Addr}{o:HO}
theorem jJn:upd H a o a=some o:=by unfold upd;rw[if_pos rfl]
variable {b:Addr}
theorem jJk (h:b≠a):upd H a o b=H b:=by unfold upd;rw[if_neg h]
theorem ne_of {u:HO}(h:H a=some o)(h':H b=some u)(d:o≠u):a≠b:=by
 intro e;subst e;rw[h] at h';exact d (Option.some.inj h')
theorem jJu (h:H a=some o)(h':H b=none):a≠b:=by
 intro e;subst e;rw[h] at h';cases h'
def Rk1 (H:Hp)(k:K1)(v:V):Prop:=match k with
 | .inl k=>v=kV k
 | .inr ks=>∃p vs,v= .ref p/\H p=some (.tup vs)/\Paired (fun k v=>v=kV k) ks vs
def Rk2 (H:Hp)(k:K2)(v:V):Prop:=match k with
 | .inl k=>v=kV k
 | .inr ks=>∃p vs,v= .ref p/\H p=some (.tup vs)/\Paired (Rk1 H) ks vs
def TKeyAt (H:Hp)(ks:TKey)(a:Addr):Prop:=∃vs,H a=some (.tup vs)/\Paired (Rk2 H) ks vs
theorem jUk {α β:Type} {F G:α->β->Prop} (f:∀a b,F a b->G a b):∀ {l:List α} {m:List β},Paired F l m->Paired G l m
 | _,_,.nil=> .nil
 | _,_,.cons r t=> .cons (f _ _ r) (jUk f t)
variable {H':Hp}
theorem Rk1.mono (ht:∀b ys,H b=some (.tup ys)->H' b=some (.tup ys))(k:K1)(v:V)(r:Rk1 H k v):Rk1 H' k v:=by
 cases k with
 | inl k=>exact r
 | inr ks=>obtain⟨p,vs,e,h,t⟩:=r;exact⟨p,vs,e,ht _ _ h,t⟩
theorem Rk2.mono (ht:∀b ys,H b=some (.tup ys)->H' b=some (.tup ys))(k:K2)(v:V)(r:Rk2 H k v):Rk2 H' k v:=by
 cases k with
 | inl k=>exact r
 | inr ks=>obtain⟨p,vs,e,h,t⟩:=r;exact⟨p,vs,e,ht _ _ h,jUk (Rk1.mono ht) t⟩
theorem TKeyAt.mono {ks:TKey}(r:TKeyAt H ks a)(ht:∀b ys,H b=some (.tup ys)->H' b=some (.tup ys)):TKeyAt H' ks a:=by
 obtain⟨vs,h,t⟩:=r;exact⟨vs,ht _ _ h,jUk (Rk2.mono ht) t⟩
section
variable (P:Program)(w:World)
def TupD (h:Heap)(a:Addr)(items:Array Value):Prop:=∃o,h.get? a=some o/\o.cls= .type "tuple"/\∃n,o.data= .seq items n/\o.dict=none
theorem TupD.is {items:Array Value}(x:TupD h a items):IsTup h a items:=let ⟨o,e,c,n,d,_⟩:=x;⟨o,e,c,n,d⟩
theorem TupD.new (h:Heap)(items:Array Value):TupD (h.push {cls:= .type "tuple",data:= .seq items}) h.objs.size items:=⟨_,Heap.get?_push_size _ rfl,rfl,_,rfl,rfl⟩
noncomputable def ObjOk (H:Hp) (h:Heap) (a:Addr):HO->Prop
 | .lst xs=>xs.length<=sizeLine/\∃(its:List Value) (n:Nat),Vals xs its/\h.get? a=some {cls:= .type "list",data:= .seq its.toArray n}
 | .tup xs=>xs.length<=sizeLine/\∃its:List Value,Vals xs its/\TupD h a its.toArray
 | .dK kvs=>kvs.length<=sizeLine/\(a == sysModules)=false/\∃vs,KV kvs vs/\h.DictOf (jJ7 P w) a vs
 | .dT kvs=>kvs.length<=sizeLine/\(a == sysModules)=false/\∃xs:List (TKey×Addr×Value),
   Paired (fun (p:TKey×V) (q:TKey×Addr×Value)=>p.1=q.1/\TKeyAt H p.1 q.2.1/\RelV p.2 q.2.2) kvs xs/\
   ∃o es ep,h.get? a=some o/\o.ExactDict/\o.data= .dict es ep/\es.toList=xs.map (entryOfKey (jJ2 P w))/\(xs.map (·.1)).Nodup
 | .set S n=>h.SetOf (intKind P w) a S n
 | .ins C dx fs=>H dx=some (.own a)/\fs.length<=1000/\dx≠a/\h.get? a=some (PySem.W.instObj C dx)/\
   ∃mA,h.Ns1 dx mA/\(∀f,RelO (fs.lookup f) (mA f))/\PySem.Within mA (fs.map (·.1))
 | .own _=>∃o,h.get? a=some o
 | .xd fs=>∃mA,h.Ns1 a mA/\∀f,RelO (fs.lookup f) (mA f)
 | .rng lo hi=>∃t u v,h.get? a=some {cls:= .type "range",data:= .fields #[.int lo t,.int hi u,.int 1 v]}
 | .frz o u=>h.get? a=some o/\ObjOk H h a u
 | .tbl ps=>h.get? a=some {cls:= .none,data:= .fields ps}
 | .met f x=>h.get? a=some (PySem.W.methodObj (.ref f) (.ref x))
 | .ext φ=>φ h/\(∃o,h.get? a=some o)/\∀h1 h2:Heap,φ h1->(∀o,h1.get? a=some o->h2.get? a=some o)->φ h2
def HOk (H:Hp)(h:Heap):Prop:=∀a o,H a=some o->ObjOk P w H h a o
end
variable {P:Program}
theorem ObjOk.lt (x:ObjOk P w H h a o):a<h.objs.size:=by
 cases o with
 | lst xs=>obtain⟨_,_,_,_,e⟩:=x;exact Heap.lt_size e
 | tup xs=>obtain⟨_,_,_,p⟩:=x;exact p.is.lt
 | dK kvs=>obtain⟨_,_,_,_,o,_,_,e,_⟩:=x;exact Heap.lt_size e
 | dT kvs=>obtain⟨_,_,_,_,o,_,_,e,_⟩:=x;exact Heap.lt_size e
 | set S n=>obtain⟨o,_,_,_,e,_⟩:=x;exact Heap.lt_size e
 | ins C dx fs=>obtain⟨_,_,_,e,_⟩:=x;exact Heap.lt_size e
 | own y=>obtain⟨_,e⟩:=x;exact Heap.lt_size e
 | xd fs=>obtain⟨_,⟨_,_,_,e,_⟩,_⟩:=x;exact Heap.lt_size e
 | rng lo hi=>obtain⟨_,_,_,e⟩:=x;exact Heap.lt_size e
 | frz ob u=>obtain⟨e,_⟩:=x;exact Heap.lt_size e
 | tbl ps=>exact Heap.lt_size (show h.get? a=some _ from x)
 | met f y=>exact Heap.lt_size (show h.get? a=some _ from x)
 | ext φ=>obtain⟨_,⟨_,e⟩,_⟩:=x;exact Heap.lt_size e
theorem Paired.mapP {α β:Type} {F G:α->β->Prop}:∀ {l₁:List α} {l₂:List β},Paired F l₁ l₂->(∀a b,F a b->G a b)->Paired G l₁ l₂
 | _,_,.nil,_=> .nil
 | _,_,.cons r t,f=> .cons (f _ _ r) (Paired.mapP t f)
theorem ObjOk.stay (x:ObjOk P w H h a o)(k:∀b u,(b=a\/H b=some (.own a))->h.get? b=some u->h'.get? b=some u)(ho:∀b,H b=some (.own a)->H' b=some (.own a))(ht:∀b xs,H b=some (.tup xs)->H' b=some (.tup xs)):ObjOk P w H' h' a o:=by
 induction o with
 | lst xs=>obtain⟨z,its,n,r,e⟩:=x;exact⟨z,its,n,r,k _ _ (.inl rfl) e⟩
 | tup xs=>obtain⟨z,its,r,ob,e,c⟩:=x;exact⟨z,its,r,ob,k _ _ (.inl rfl) e,c⟩
 | dK kvs=>obtain⟨z,y,vs,r,ob,es,ep,e,c⟩:=x;exact⟨z,y,vs,r,ob,es,ep,k _ _ (.inl rfl) e,c⟩
 | dT kvs=>
  obtain⟨z,y,xs,r,ob,es,ep,e,c⟩:=x
  exact⟨z,y,xs,Paired.mapP r fun p q z=>⟨z.1,z.2.1.mono ht,z.2.2⟩,ob,es,ep,k _ _ (.inl rfl) e,c⟩
 | set S n=>obtain⟨ob,es,ep,t,e,c⟩:=x;exact⟨ob,es,ep,t,k _ _ (.inl rfl) e,c⟩
 | ins C dx fs=>
  obtain⟨d,z,ne,e,mA,⟨od,es,ep,e2,c⟩,r⟩:=x
  exact⟨ho _ d,z,ne,k _ _ (.inl rfl) e,mA,⟨od,es,ep,k _ _ (.inr d) e2,c⟩,r⟩
 | own y=>obtain⟨ob,e⟩:=x;exact⟨ob,k _ _ (.inl rfl) e⟩
 | xd fs=>obtain⟨mA,⟨od,es,ep,e,c⟩,r⟩:=x;exact⟨mA,⟨od,es,ep,k _ _ (.inl rfl) e,c⟩,r⟩
 | rng lo hi=>obtain⟨t,u,v,e⟩:=x;exact⟨t,u,v,k _ _ (.inl rfl) e⟩
 | frz ob u ih=>obtain⟨e,q⟩:=x;exact⟨k _ _ (.inl rfl) e,ih q⟩
 | tbl ps=>
  have e:h.get? a=some {cls:= .none,data:= .fields ps}:=x
  show h'.get? a=some {cls:= .none,data:= .fields ps}
  exact k a _ (.inl rfl) e
 | met f y=>
  have e:h.get? a=some (PySem.W.methodObj (.ref f) (.ref y)):=x
  show h'.get? a=some (PySem.W.methodObj (.ref f) (.ref y))
  exact k a _ (.inl rfl) e
 | ext φ=>obtain⟨p,⟨o,e⟩,st⟩:=x;exact⟨st _ _ p fun o q=>k _ _ (.inl rfl) q,⟨o,k _ _ (.inl rfl) e⟩,st⟩
theorem HOk.lt (x:HOk P w H h)(e:H a=some o):a<h.objs.size:=(x a o e).lt
theorem HOk.fresh (x:HOk P w H h)(e:h.objs.size<=a):H a=none:=by
 cases q:H a with
 | none=>rfl
 | some u=>exact absurd (Nat.lt_of_lt_of_le (x.lt q) e) (Nat.lt_irrefl _)
theorem HOk.kept (x:HOk P w H h)(k:∀b u,h.get? b=some u->h'.get? b=some u):HOk P w H h':=fun a o e=>
 (x a o e).stay (fun b u _ q=>k b u q) (fun _ q=>q) fun _ _ q=>q
theorem HOk.laid (x:HOk P w H h)(k:∀b u,h.get? b=some u->h'.get? b=some u)(hp:h.objs.size<=a)(new:ObjOk P w (upd H a o) h' a o):HOk P w (upd H a o) h':=fun b u e=>by
 have hn:=x.fresh hp
 by_cases hb:b=a
 ·subst hb;rw[jJn] at e;cases e;exact new
 ·rw[jJk hb] at e
  exact (x b u e).stay (fun c v _ q=>k c v q) (fun c q=>by rw[jJk (jJu q hn)];exact q) fun c xs q=>by rw[jJk (jJu q hn)];exact q
def Rd (H:Hp)(a:Addr)(u:HO):Prop:=H a=some u\/∃o,H a=some (.frz o u)
theorem Rd.ok {u:HO}(r:Rd H a u)(x:HOk P w H h):ObjOk P w H h a u:=by
 rcases r with r | ⟨o,r⟩
 ·exact x a u r
 ·obtain⟨_,q⟩:=x a _ r
  exact q
def Mut:Option HO->Prop
 | some (.lst _)=>True
 | some (.dK _)=>True
 | some (.dT _)=>True
 | some (.set _ _)=>True
 | some (.ins _ _ _)=>True
 | some (.ext _)=>True
 | _=>False
section
variable {x e:Addr}{o':HO}
theorem HOk.write (ok:HOk P w H h)(mu:Mut (H x))(he:e=x\/H e=some (.own x))(k:∀b u,b≠e->h.get? b=some u->h'.get? b=some u)(heo:∃u,h'.get? e=some u)(new:ObjOk P w (upd H x o') h' x o'):HOk P w (upd H x o') h':=fun b u q=>by
 have nown:∀c y,H c=some (.own y)->c≠x:=fun c y r z=>by subst z;rw[r] at mu;exact mu
 have ntup:∀c xs,H c=some (.tup xs)->c≠x:=fun c xs r z=>by subst z;rw[r] at mu;exact mu
 by_cases hb:b=x
 ·subst hb;rw[jJn] at q;cases q;exact new
 ·rw[jJk hb] at q
  by_cases hbe:b=e
  ·have q':H b=some (.own x):=by
    rcases he with z | z
    ·exact absurd (hbe.trans z) hb
    ·rw[hbe];exact z
   rw[q] at q';cases q'
   obtain⟨v,hv⟩:=heo
   exact⟨v,by rw[hbe];exact hv⟩
  ·refine (ok b u q).stay (fun c v hc r=>k c v ?_ r) (fun c r=>by rw[jJk (nown c b r)];exact r) fun c xs r=>by rw[jJk (ntup c xs r)];exact r
   rcases hc with rfl | hc
   ·exact hbe
   ·rintro rfl
    rcases he with z | z
    ·exact nown c b hc z
    ·rw[hc] at z;cases z;exact hb rfl
end
structure Un (fs ex:List Addr) (H H':Hp) (h h':Heap):Prop where
 keep:∀b o,h.get? b=some o->H b=none->b∉fs->b∉ex->h'.get? b=some o
 slot:∀b o,h.get? b=some o->H b=none->b∈fs->b∉ex->∃sl,h'.get? b=some {o with slots:=sl}
 free:∀b o,h.get? b=some o->H b=none->b∉ex->H' b=none
 there:∀b o,h.get? b=some o->b∉ex->∃o',h'.get? b=some o'
 tups:∀b xs,H b=some (.tup xs)->H' b=some (.tup xs)
 frzs:∀b o u,H b=some (.frz o u)->H' b=some (.frz o u)
 tbls:∀b ps,H b=some (.tbl ps)->∃more,H' b=some (.tbl (ps++more))
section
variable {fs fs' ex ex':List Addr}{H1 H2:Hp}{h1 h2:Heap}{x e:Addr}
theorem Un.any (u:Un fs ex H H1 h h1){ob:Obj}(q:h.get? b=some ob)(n:H b=none)(hx:b∉ex):∃sl,h1.get? b=some {ob with slots:=sl}:=by
 by_cases hb:b∈fs
 ·exact u.slot b ob q n hb hx
 ·exact⟨ob.slots,u.keep b ob q n hb hx⟩
theorem Un.kept (k:∀b u,h.get? b=some u->h'.get? b=some u):Un fs ex H H h h':=
 ⟨fun b ob q _ _ _=>k b ob q,fun b ob q _ _ _=>⟨ob.slots,k b ob q⟩,fun _ _ _ n _=>n,fun b ob q _=>⟨ob,k b ob q⟩,fun _ _ q=>q,fun _ _ _ q=>q,fun _ ps q=>⟨#[],by rw[q];simp⟩⟩
theorem Un.refl:Un fs ex H H h h:=Un.kept fun _ _ q=>q
theorem Un.laid (k:∀b u,h.get? b=some u->h'.get? b=some u)(hp:h.objs.size<=a)(hn:H a=none):Un fs ex H (upd H a o) h h' where
 keep:=fun b u q _ _ _=>k b u q
 slot:=fun b u q _ _ _=>⟨u.slots,k b u q⟩
 free:=fun b u q n _=>by rw[jJk (Nat.ne_of_lt (Nat.lt_of_lt_of_le (Heap.lt_size q) hp))];exact n
 there:=fun b u q _=>⟨u,k b u q⟩
 tups:=fun b xs q=>by rw[jJk (jJu q hn)];exact q
 frzs:=fun b u xs q=>by rw[jJk (jJu q hn)];exact q
 tbls:=fun b ps q=>⟨#[],by rw[jJk (jJu q hn),q];simp⟩
theorem Un.write (mu:Mut (H x))(he:e=x\/H e=some (.own x))(k:∀b u,b≠e->h.get? b=some u->h'.get? b=some u)(heo:∃u,h'.get? e=some u):Un fs ex H (upd H x o) h h':=by
 have hx:∀b,H b=none->b≠x:=fun b n z=>by subst z;rw[n] at mu;exact mu
 have hb:∀b,H b=none->b≠e:=fun b n z=>by
  subst z
  rcases he with r | r
  ·exact hx b n r
  ·rw[n] at r;cases r
 have hm:∀b u,H b=some u->¬ Mut (some u)->b≠x:=fun b u q nm z=>by subst z;rw[q] at mu;exact nm mu
 refine⟨fun b u q n _ _=>k b u (hb b n) q,fun b u q n _ _=>⟨u.slots,k b u (hb b n) q⟩,fun b u q n _=>by rw[jJk (hx b n)];exact n,fun b u q _=> ?_,
  fun b xs q=>by rw[jJk (hm b _ q fun z=>z)];exact q,fun b u xs q=>by rw[jJk (hm b _ q fun z=>z)];exact q,fun b ps q=>⟨#[],by rw[jJk (hm b _ q fun z=>z),q];simp⟩⟩
 by_cases hbe:b=e
 ·subst hbe;exact heo
 ·exact⟨u,k b u hbe q⟩
end
def trk (h:Heap)(H:Hp):List Addr:=(List.range h.objs.size).filter fun a=>(H a).isSome
def hidT (h:Heap)(H:Hp):Heap:=PySem.W.hideAll h (trk h H)
theorem kXa (h:Heap)(H:Hp):(hidT h H).objs.size=h.objs.size:=PySem.W.hideAll_size _ _
theorem kZp {o:Obj}(e:h.get? b=some o)(n:H b=none):(hidT h H).get? b=some o:=
 PySem.W.hideAll_get _ e fun hm=>by
  have q:(H b).isSome=true:=(List.mem_filter.mp hm).2
  rw[n] at q;simp at q
theorem qKc {o:Obj}(e:(hidT h H).get? b=some o):h.get? b=some o/\H b=none:=by
 have e':h.get? b=some o:=PySem.W.of_hideAll (trk h H) e
 refine⟨e',?_⟩
 cases q:H b with
 | none=>rfl
 | some x=>
  have hm:b∈trk h H:=List.mem_filter.mpr ⟨List.mem_range.mpr (Heap.lt_size e'),by simp[q]⟩
  have z:(hidT h H).get? b=none:=PySem.W.hideAll_none (trk h H) hm
  rw[z] at e;cases e
def qQb (g h:Heap)(L:Addr):List (Addr×Obj):=(List.range h.objs.size).filterMap fun a=>if a=L\/(g.get? a).isSome=true then none else (h.get? a).map fun o=>(a,o)
def rest (g h:Heap)(L d:Addr):List (Addr×Obj):=(qQb g h L).filter fun p=>decide (p.1≠d)
structure Mod (K:PySem.W.Frag) (mg:Str->Option Value) (base:Heap):Prop where
 kin:K.In base
 glob:base.Ns mainGlobals mg
 blt:∃mb,base.Ns builtinsNs mb/\∀x:Str,x≠"__name__"->mb x=bootBuiltins x
 nolimit:base.NoLimit
structure Cx where
 prog:Program
 w:World
 K:PySem.W.Frag
 mg:Str->Option Value
 base:Heap
 A:Around
 N:List Str
 s₀:Shared
 H₀:Hp
 env:Env
 outer:List Env
 stack:List Env
 ex:List Addr
 fn:Str->Bool
 calm:Bool
 pn:List (Addr×Obj)
 xe:Value->Shared->Prop
def frs (l:List Env):List Addr:=l.filterMap (·.frame)
abbrev Cx.fs (X:Cx):List Addr:=frs X.outer
def Vis (sc:Scope)(x:Str):Prop:=sc.names.lookup x=some .local\/sc.names.lookup x=some .cell\/sc.names.lookup x=some .free
def Loc (sc:Scope)(x:Str):Prop:=sc.names.lookup x=some .local\/sc.names.lookup x=some .cell
noncomputable def Look (env:Env)(h:Heap)(m:Str->Option Value)(x:Str)(u:Value):Prop:=
 (env.kindOf x=some .local/\m x=some u)\/((env.kindOf x=some .cell\/env.kindOf x=some .free)/\∃c,env.cells.lookup x=some c/\h.IsCell c (some u))
structure Cx.Ok (X:Cx):Prop where
 mod:Mod X.K X.mg X.base
 kind:X.env.scope.kind= .function
 glob:X.env.globals=mainGlobals
 blt:X.env.builtins=builtinsNs
 above:X.s₀.heap.objs.size<=X.env.locals
 inj:∀x y c,X.env.cells.lookup x=some c->X.env.cells.lookup y=some c->x=y
 has:∀x,(X.env.kindOf x=some .cell\/X.env.kindOf x=some .free)->∃c,X.env.cells.lookup x=some c
 cab:∀x c,X.fn x=true->X.env.cells.lookup x=some c->X.s₀.heap.objs.size<=c
 hd:X.calm=true->X.A.handled=none
 gd:X.calm=true->X.A.guards=some []
 frames:X.A.frames=some X.stack
 stk:X.stack=X.outer\/(X.stack=X.env::X.outer/\X.env.frame=some X.env.locals)
 exf:∀b∈X.ex,b≠X.env.locals/\∀x c,X.env.cells.lookup x=some c->c≠b
 bs:∀b o,X.base.get? b=some o->X.s₀.heap.get? b=some o/\X.H₀ b=none
 bsz:X.base.objs.size<=X.s₀.heap.objs.size
 noex:∀b o,X.base.get? b=some o->b∉X.ex
 exfs:∀b∈X.ex,b∉X.fs
 funs:X.s₀.heap.FunFrames X.base X.outer
 frf:∀b∈X.fs,X.H₀ b=none
structure Inv (X:Cx) (pins:List (Addr×Obj)) (σ:List (Option V)) (H:Hp) (s:Shared):Prop where
 ok:X.Ok
 os:s.os=X.s₀.os
 bare:AllBare s.gens
 base:Un X.fs X.ex X.H₀ H X.s₀.heap s.heap
 loc:∃m,s.heap.Ns X.env.locals m/\∀(i:Nat) (x:Str) (v:V),X.N[i]? =some x->σ[i]? =some (some v)->Vis X.env.scope x->∃u,RelV v u/\Look X.env s.heap m x u
 cell:∀x c,X.env.cells.lookup x=some c->∃v,s.heap.IsCell c v
 free:H X.env.locals=none
 freeC:∀x c,X.env.cells.lookup x=some c->H c=none
 pin:∀p∈X.pn++pins,s.heap.get? p.1=some p.2/\H p.1=none/\p.1≠X.env.locals/\p.1∉X.fs/\∀v,p.2.data≠ .cell v
 hok:HOk X.prog X.w H s.heap
 len:σ.length=X.N.length
variable {X:Cx}{pins:List (Addr×Obj)}{s s':Shared}{g':Array GenState}{ch:List Addr}{it:Addr}{N:List Str}{i j:Nat}{x:Str}{M:Model}{E:Value->Shared->Prop}{u:Value}
section
variable {σ:List (Option V)}
theorem Cx.Ok.nofr (ok:X.Ok){o:Obj}(e:X.base.get? b=some o):b∉X.fs:=fun hb=>by
 have:=(ok.funs.mem hb).1
 rw[e] at this;cases this
theorem Inv.bs (I:Inv X pins σ H s):∀b o,X.base.get? b=some o->s.heap.get? b=some o/\H b=none:=fun b o e=>
 ⟨I.base.keep b o (I.ok.bs b o e).1 (I.ok.bs b o e).2 (I.ok.nofr e) (I.ok.noex b o e),I.base.free b o (I.ok.bs b o e).1 (I.ok.bs b o e).2 (I.ok.noex b o e)⟩
theorem Inv.bk (I:Inv X pins σ H s):∀b o,X.base.get? b=some o->s.heap.get? b=some o:=fun b o e=>(I.bs b o e).1
theorem Inv.mod (I:Inv X pins σ H s):Mod X.K X.mg X.base:=I.ok.mod
theorem Inv.kIn (I:Inv X pins σ H s):X.K.In s.heap:=I.ok.mod.kin.keeps I.bk
theorem Inv.lt (I:Inv X pins σ H s):X.env.locals<s.heap.objs.size:=let ⟨_,hn,_⟩:=I.loc;hn.lt
theorem Inv.sz (I:Inv X pins σ H s):X.s₀.heap.objs.size<=s.heap.objs.size:=Nat.le_trans I.ok.above (Nat.le_of_lt I.lt)
theorem Inv.nofs (I:Inv X pins σ H s)(h:s.heap.objs.size<=a):a∉X.fs:=fun hb=>by
 obtain⟨_,o,ho,_⟩:=I.ok.funs.mem hb
 exact absurd (Nat.lt_of_lt_of_le (Heap.lt_size ho) (Nat.le_trans I.sz h)) (Nat.lt_irrefl _)
theorem Inv.cne (I:Inv X pins σ H s):∀x c,X.env.cells.lookup x=some c->c≠X.env.locals:=fun x c e z=>by
 obtain⟨v,o,ho,hd⟩:=I.cell x c e
 obtain⟨m,⟨o',es,ep,ho',hd',_⟩,_⟩:=I.loc
 rw[z,ho'] at ho;cases ho;rw[hd'] at hd;cases hd
theorem Inv.funs (I:Inv X pins σ H s):s.heap.FunFrames X.base X.outer:=by
 have all:∀(l:List Env),(∀b∈frs l,b∈X.fs)->X.s₀.heap.FunFrames X.base l->s.heap.FunFrames X.base l:=by
  intro l
  induction l with
  | nil=>intro _ _;trivial
  | cons env r ih=>
   intro hs hl
   obtain⟨hk,⟨L,o,hf,hn,ho,hd⟩,hr⟩:=hl
   have hL:L∈X.fs:=hs L (by unfold frs;rw[List.filterMap_cons,hf];exact List.mem_cons_self)
   obtain⟨sl,e⟩:=I.base.slot L o ho (I.ok.frf L hL) hL fun z=>I.ok.exfs L z hL
   exact⟨hk,⟨L,_,hf,hn,e,hd⟩,ih (fun b hb=>hs b (by unfold frs;rw[List.filterMap_cons,hf];exact List.mem_cons_of_mem _ hb)) hr⟩
 exact all X.outer (fun _ hb=>hb) I.ok.funs
theorem Inv.stack (I:Inv X pins σ H s):s.heap.FunFrames X.base X.stack:=by
 rcases I.ok.stk with e | ⟨e,hf⟩
 ·rw[e];exact I.funs
 ·rw[e]
  obtain⟨m,hn,_⟩:=I.loc
  refine .cons (by rw[I.ok.kind];decide) hf hn ?_ I.funs
  exact Heap.get?_none_of_le (Nat.le_trans I.ok.bsz I.ok.above)
theorem Inv.stkSub (I:Inv X pins σ H s):∀b∈frs X.stack,b∈X.env.locals::X.fs:=fun b hb=>by
 rcases I.ok.stk with e | ⟨e,hf⟩
 ·rw[e] at hb;exact List.mem_cons_of_mem _ hb
 ·rw[e] at hb
  unfold frs at hb
  rw[List.filterMap_cons,hf] at hb
  exact hb
theorem Inv.stkFree (I:Inv X pins σ H s):∀b∈frs X.stack,H b=none:=fun b hb=>by
 rcases List.mem_cons.mp (I.stkSub b hb) with e | hb
 ·rw[e];exact I.free
 ·obtain⟨_,o,ho,_⟩:=I.ok.funs.mem hb
  exact I.base.free b o ho (I.ok.frf b hb) fun z=>I.ok.exfs b z hb
theorem Inv.step {t':Nat}{d':Drawn}(I:Inv X pins σ H s)(hch:∀b∈ch,(b∈X.ex\/X.s₀.heap.objs.size<=b)/\b≠X.env.locals/\(∀x c,X.env.cells.lookup x=some c->c≠b)/\∀p∈X.pn++pins,p.1≠b)(keep:∀b o,b≠X.env.locals->b∉X.fs->b∉ch->s.heap.get? b=some o->H b=none->h'.get? b=some o)(slot:∀b o,b≠X.env.locals->b∈X.fs->b∉ch->s.heap.get? b=some o->H b=none->∃sl,h'.get? b=some {o with slots:=sl})(free:∀b o,b∉ch->s.heap.get? b=some o->H b=none->H' b=none)(there:∀b o,b∉ch->s.heap.get? b=some o->∃o',h'.get? b=some o')(tups:∀b xs,H b=some (.tup xs)->H' b=some (.tup xs))(frzs:∀b o u,H b=some (.frz o u)->H' b=some (.frz o u))(tbls:∀b ps,H b=some (.tbl ps)->∃more,H' b=some (.tbl (ps++more)))(ns:∀m,s.heap.Ns X.env.locals m->h'.Ns X.env.locals m)(hok:HOk X.prog X.w H' h')(hg:AllBare g'):
  Inv X pins σ H' {s with heap:=h',gens:=g',drawn:=d',toks:=t'}:=by
 have neL:∀b o,X.s₀.heap.get? b=some o->b≠X.env.locals:=fun b o e=>Nat.ne_of_lt (Nat.lt_of_lt_of_le (Heap.lt_size e) I.ok.above)
 have neC:∀b o,X.s₀.heap.get? b=some o->b∉X.ex->b∉ch:=fun b o e hx hb=>by
  rcases (hch b hb).1 with z | z
  ·exact hx z
  ·exact absurd (Nat.lt_of_lt_of_le (Heap.lt_size e) z) (Nat.lt_irrefl _)
 have cellK:∀x c,X.env.cells.lookup x=some c->∀v,s.heap.IsCell c v->h'.IsCell c v:=fun x c e v ⟨o,ho,hd⟩=>by
  have nch:c∉ch:=fun z=>(hch c z).2.2.1 x c e rfl
  by_cases hc:c∈X.fs
  ·obtain⟨sl,q⟩:=slot c o (I.cne x c e) hc nch ho (I.freeC x c e)
   exact⟨_,q,hd⟩
  ·exact⟨o,keep c o (I.cne x c e) hc nch ho (I.freeC x c e),hd⟩
 refine⟨I.ok,I.os,hg,⟨fun b o e n hb hx=> ?_,fun b o e n hb hx=> ?_,fun b o e n hx=> ?_,fun b o e hx=> ?_,fun b xs e=>tups b xs (I.base.tups b xs e),fun b o xs e=>frzs b o xs (I.base.frzs b o xs e),fun b ps e=> ?_⟩,?_,fun x c e=> ?_,?_,fun x c e=> ?_,fun p hp=> ?_,hok,I.len⟩
 ·exact keep b o (neL b o e) hb (neC b o e hx) (I.base.keep b o e n hb hx) (I.base.free b o e n hx)
 ·obtain⟨sl,e1⟩:=I.base.slot b o e n hb hx
  obtain⟨sl',e2⟩:=slot b _ (neL b o e) hb (neC b o e hx) e1 (I.base.free b o e n hx)
  exact⟨sl',e2⟩
 ·obtain⟨o',e1⟩:=I.base.there b o e hx
  exact free b o' (neC b o e hx) e1 (I.base.free b o e n hx)
 ·obtain⟨o',e1⟩:=I.base.there b o e hx
  exact there b o' (neC b o e hx) e1
 ·obtain⟨m1,e1⟩:=I.base.tbls b ps e
  obtain⟨m2,e2⟩:=tbls b _ e1
  exact⟨m1++m2,by rw[e2,Array.append_assoc]⟩
 ·obtain⟨m,hn,hl⟩:=I.loc
  refine⟨m,ns m hn,fun i x v e1 e2 e3=> ?_⟩
  obtain⟨u,r,l⟩:=hl i x v e1 e2 e3
  refine⟨u,r,?_⟩
  rcases l with l | ⟨k,c,e,z⟩
  ·exact .inl l
  ·exact .inr ⟨k,c,e,cellK x c e _ z⟩
 ·obtain⟨v,z⟩:=I.cell x c e
  exact⟨v,cellK x c e v z⟩
 ·obtain⟨m,⟨o,_,_,ho,_⟩,_⟩:=I.loc
  exact free _ o (fun z=>(hch _ z).2.1 rfl) ho I.free
 ·obtain⟨v,o,ho,hd⟩:=I.cell x c e
  exact free c o (fun z=>(hch c z).2.2.1 x c e rfl) ho (I.freeC x c e)
 ·obtain⟨e,n,ne,nf,d⟩:=I.pin p hp
  have nch:p.1∉ch:=fun z=>(hch p.1 z).2.2.2 p hp rfl
  exact⟨keep p.1 p.2 ne nf nch e n,free p.1 p.2 nch e n,ne,nf,d⟩
theorem Inv.un {t':Nat}(I:Inv X pins σ H s)(u:Un X.fs [] H H' s.heap h')(hok:HOk X.prog X.w H' h'):Inv X pins σ H' {s with heap:=h',toks:=t'}:=by
 obtain⟨m,⟨o,es,ep,ho,r⟩,_⟩:=id I.loc
 obtain⟨sl,hL⟩:=u.any ho I.free (by simp)
 exact I.step (g':=s.gens) (d':=s.drawn) (ch:=[]) (fun _ z=>nomatch z) (fun b o _ hb _ e n=>u.keep b o e n hb (by simp)) (fun b o _ hb _ e n=>u.slot b o e n hb (by simp)) (fun b o _ e n=>u.free b o e n (by simp)) (fun b o _ e=>u.there b o e (by simp)) u.tups u.frzs u.tbls (fun m' hm=>by
  obtain⟨o',es',ep',ho',r'⟩:=hm
  rw[ho] at ho';cases ho'
  exact⟨_,es',ep',hL,r'⟩) hok I.bare
theorem Inv.call {t':Nat}{d':Drawn}(I:Inv X pins σ H s)(u:Un (frs X.stack) ch H H' s.heap h')(hok:HOk X.prog X.w H' h')(hg:AllBare g')(hch:∀b∈ch,(b∈X.ex\/X.s₀.heap.objs.size<=b)/\b≠X.env.locals/\(∀x c,X.env.cells.lookup x=some c->c≠b)/\∀p∈X.pn++pins,p.1≠b):
  Inv X pins σ H' {s with heap:=h',gens:=g',drawn:=d',toks:=t'}:=by
 obtain⟨m,⟨o,es,ep,ho,r⟩,_⟩:=id I.loc
 obtain⟨sl,hL⟩:=u.any ho I.free fun z=>(hch _ z).2.1 rfl
 exact I.step (ch:=ch) hch (fun b o hL hb hc e n=>u.keep b o e n (fun z=>(List.mem_cons.mp (I.stkSub b z)).elim hL hb) hc) (fun b o _ _ hc e n=>u.any e n hc) (fun b o hc e n=>u.free b o e n hc) (fun b o hc e=>u.there b o e hc) u.tups u.frzs u.tbls (fun m' hm=>by
  obtain⟨o',es',ep',ho',r'⟩:=hm
  rw[ho] at ho';cases ho'
  exact⟨_,es',ep',hL,r'⟩) hok hg
theorem Inv.turned {t':Nat}(I:Inv X pins σ H s)(k:∀b o,b≠it->s.heap.get? b=some o->h'.get? b=some o)(hn:H it=none)(hL:it≠X.env.locals)(h1:it∈X.ex\/X.s₀.heap.objs.size<=it)(h2:∀x c,X.env.cells.lookup x=some c->c≠it)(h3:∀p∈X.pn++pins,p.1≠it):Inv X pins σ H {s with heap:=h',toks:=t'}:=by
 have nit:∀b u,H b=some u->b≠it:=fun b u e z=>by rw[z,hn] at e;cases e
 refine I.step (g':=s.gens) (d':=s.drawn) (ch:=[it]) (fun b hb=> ?_) (fun b o _ _ hc e _=>k b o (fun z=>hc (by simp[z])) e) (fun b o _ _ hc e _=>⟨o.slots,k b o (fun z=>hc (by simp[z])) e⟩) (fun _ _ _ _ n=>n)
  (fun b o hc e=>⟨o,k b o (fun z=>hc (by simp[z])) e⟩) (fun _ _ e=>e) (fun _ _ _ e=>e) (fun b ps e=>⟨#[],by rw[e];simp⟩) (fun m hm=> ?_) (fun b u e=> ?_) I.bare
 ·have e:b=it:=by simpa using hb
  subst e
  exact⟨h1,hL,h2,h3⟩
 ·obtain⟨o,es,ep,ho,r⟩:=hm
  exact⟨o,es,ep,k _ o (Ne.symm hL) ho,r⟩
 ·refine (I.hok b u e).stay (fun c v hc q=>k c v ?_ q) (fun _ q=>q) fun _ _ q=>q
  rcases hc with z | z
  ·rw[z];exact nit b u e
  ·exact nit c _ z
theorem Inv.tok (I:Inv X pins σ H s)(t:Nat):Inv X pins σ H {s with toks:=t}:=I.un (h':=s.heap) (t':=t) Un.refl I.hok
theorem Inv.kept {t':Nat}(I:Inv X pins σ H s)(k:∀b u,s.heap.get? b=some u->h'.get? b=some u):Inv X pins σ H {s with heap:=h',toks:=t'}:=I.un (Un.kept k) (I.hok.kept k)
theorem Inv.laid {t':Nat}(I:Inv X pins σ H s)(k:∀b u,s.heap.get? b=some u->h'.get? b=some u)(hp:s.heap.objs.size<=a)(new:ObjOk X.prog X.w (upd H a o) h' a o):
  Inv X pins σ (upd H a o) {s with heap:=h',toks:=t'}:=I.un (Un.laid k hp (I.hok.fresh hp)) (I.hok.laid k hp new)
theorem Inv.write {x e:Addr}{t':Nat}(I:Inv X pins σ H s)(mu:Mut (H x))(he:e=x\/H e=some (.own x))(k:∀b u,b≠e->s.heap.get? b=some u->h'.get? b=some u)(heo:∃u,h'.get? e=some u)(new:ObjOk X.prog X.w (upd H x o) h' x o):Inv X pins σ (upd H x o) {s with heap:=h',toks:=t'}:=I.un (Un.write mu he k heo) (I.hok.write mu he k heo new)
theorem Inv.weak {σ':List (Option V)}(I:Inv X pins σ H s)(hl:σ'.length=σ.length)(w:∀(i:Nat) v,σ'[i]? =some (some v)->σ[i]? =some (some v)):Inv X pins σ' H s:=
 ⟨I.ok,I.os,I.bare,I.base,let ⟨m,hn,hl'⟩:=I.loc;⟨m,hn,fun i x v e1 e2 e3=>hl' i x v e1 (w i v e2) e3⟩,I.cell,I.free,I.freeC,I.pin,I.hok,hl.trans I.len⟩
theorem Inv.pins_of {pins':List (Addr×Obj)}(I:Inv X pins σ H s)(h:∀p∈pins',s.heap.get? p.1=some p.2/\H p.1=none/\p.1≠X.env.locals/\p.1∉X.fs/\∀v,p.2.data≠ .cell v):Inv X pins' σ H s:=
 ⟨I.ok,I.os,I.bare,I.base,I.loc,I.cell,I.free,I.freeC,fun p hp=>(List.mem_append.mp hp).elim (fun z=>I.pin p (List.mem_append_left _ z)) (h p),I.hok,I.len⟩
theorem jZb (hN:N.Nodup)(a:N[i]? =some x)(b:N[j]? =some x):i=j:=by
 obtain⟨h1,e1⟩:=List.getElem?_eq_some_iff.mp a
 obtain⟨h2,e2⟩:=List.getElem?_eq_some_iff.mp b
 exact (List.getElem_inj hN).mp (e1.trans e2.symm)
theorem kU6 {v:V}{Q:Unit->Shared->Prop}(I:Inv X pins σ H s)(hN:X.N.Nodup)(hi:X.N[i]? =some x)(hx:Loc X.env.scope x)(r:RelV v u)(h:∀s',Inv X pins (σ.set i (some v)) H s'->(∃a,Heap.SameBut a s.heap s'.heap/\(a=X.env.locals\/X.env.cells.lookup x=some a))->Q () s')(hf:X.fn x=true\/X.env.scope.names.lookup x=some .local:=by first | exact .inl rfl | exact .inr rfl | assumption):wpAny M A (storeName X.env x u) Q E s:=by
 obtain⟨m,hn,hl⟩:=id I.loc
 have hcls:(X.env.scope.kind == .class||(X.env.scope.kind == .module&&X.env.locals != X.env.globals))=false:=by rw[I.ok.kind];rfl
 have hiσ:i<σ.length:=by rw[I.len];exact (List.getElem?_eq_some_iff.mp hi).1
 have cne:=I.cne
 have tracked:∀ {a:Addr} {h':Heap},(∃o,s.heap.get? a=some o/\H a=none)->Heap.SameBut a s.heap h'->HOk X.prog X.w H h':=fun {a h'} ha hs b ob e=>by
  obtain⟨_,_,hfree⟩:=ha
  refine (I.hok b ob e).stay (fun c w' hc q=>(hs.2 c ?_).trans q) (fun _ q=>q) fun _ _ q=>q
  rintro rfl
  rcases hc with rfl | hc
  ·rw[hfree] at e;cases e
  ·rw[hfree] at hc;cases hc
 rcases hx with hk | hk
 ·refine wpAny_storeName_local hk hn (fun h' hn' hs=> ?_) hcls
  obtain⟨oL,_,_,hoL,_⟩:=id hn
  refine h _ ⟨I.ok,I.os,I.bare,⟨fun b o e n hb hx=> ?_,fun b o e n hb hx=> ?_,I.base.free,fun b o e hx=> ?_,I.base.tups,I.base.frzs,I.base.tbls⟩,⟨_,hn',fun j y v' e1 e2 e3=> ?_⟩,fun y c e=> ?_,I.free,I.freeC,fun p hp=> ?_,tracked ⟨oL,hoL,I.free⟩ hs,by simpa using I.len⟩ ⟨_,hs,.inl rfl⟩
  ·exact (hs.2 b (Nat.ne_of_lt (Nat.lt_of_lt_of_le (Heap.lt_size e) I.ok.above))).trans (I.base.keep b o e n hb hx)
  ·obtain⟨sl,e1⟩:=I.base.slot b o e n hb hx
   exact⟨sl,(hs.2 b (Nat.ne_of_lt (Nat.lt_of_lt_of_le (Heap.lt_size e) I.ok.above))).trans e1⟩
  ·obtain⟨o',e1⟩:=I.base.there b o e hx
   exact⟨o',(hs.2 b (Nat.ne_of_lt (Nat.lt_of_lt_of_le (Heap.lt_size e) I.ok.above))).trans e1⟩
  ·by_cases hj:j=i
   ·subst hj
    rw[hi] at e1;cases e1
    rw[List.getElem?_set_self hiσ] at e2
    cases e2
    exact⟨u,r,.inl ⟨hk,by simp⟩⟩
   ·rw[List.getElem?_set_ne (Ne.symm hj)] at e2
    obtain⟨u',r',q⟩:=hl j y v' e1 e2 e3
    refine⟨u',r',?_⟩
    rcases q with ⟨k,e⟩ | ⟨k,c,e,z⟩
    ·refine .inl ⟨k,?_⟩
     have:y≠x:=fun e=>hj (jZb hN e1 (e▸hi))
     simp[this,e]
    ·exact .inr ⟨k,c,e,z.sameBut hs (cne y c e)⟩
  ·obtain⟨w',z⟩:=I.cell y c e
   exact⟨w',z.sameBut hs (cne y c e)⟩
  ·obtain⟨e,n,ne,nf,d⟩:=I.pin p hp
   exact⟨(hs.2 p.1 ne).trans e,n,ne,nf,d⟩
 ·have hfn:X.fn x=true:=by
   rcases hf with z | z
   ·exact z
   ·rw[z] at hk;cases hk
  obtain⟨c,hc⟩:=I.ok.has x (.inl hk)
  obtain⟨w',z⟩:=I.cell x c hc
  refine wpAny_storeName_cell I.ok.kind hk hc z (fun h' hc' hs=> ?_)
  obtain⟨oc,hoc,hocd⟩:=id z
  refine h {s with heap:=h'} ⟨I.ok,I.os,I.bare,⟨fun b o e n hb hx=> ?_,fun b o e n hb hx=> ?_,I.base.free,fun b o e hx=> ?_,I.base.tups,I.base.frzs,I.base.tbls⟩,⟨m,hn.sameBut hs (Ne.symm (cne x c hc)),fun j y v' e1 e2 e3=> ?_⟩,fun y c' e=> ?_,I.free,I.freeC,fun p hp=> ?_,tracked ⟨oc,hoc,I.freeC x c hc⟩ hs,by simpa using I.len⟩ ⟨c,hs,.inr hc⟩
  ·exact (hs.2 b (Nat.ne_of_lt (Nat.lt_of_lt_of_le (Heap.lt_size e) (I.ok.cab x c hfn hc)))).trans (I.base.keep b o e n hb hx)
  ·obtain⟨sl,e1⟩:=I.base.slot b o e n hb hx
   exact⟨sl,(hs.2 b (Nat.ne_of_lt (Nat.lt_of_lt_of_le (Heap.lt_size e) (I.ok.cab x c hfn hc)))).trans e1⟩
  ·obtain⟨o',e1⟩:=I.base.there b o e hx
   exact⟨o',(hs.2 b (Nat.ne_of_lt (Nat.lt_of_lt_of_le (Heap.lt_size e) (I.ok.cab x c hfn hc)))).trans e1⟩
  ·by_cases hj:j=i
   ·subst hj
    rw[hi] at e1;cases e1
    rw[List.getElem?_set_self hiσ] at e2
    cases e2
    exact⟨u,r,.inr ⟨.inl hk,c,hc,hc'⟩⟩
   ·rw[List.getElem?_set_ne (Ne.symm hj)] at e2
    obtain⟨u',r',q⟩:=hl j y v' e1 e2 e3
    refine⟨u',r',?_⟩
    rcases q with q | ⟨k,c',e,z'⟩
    ·exact .inl q
    ·refine .inr ⟨k,c',e,z'.sameBut hs ?_⟩
     rintro rfl
     exact hj (jZb hN e1 (I.ok.inj _ _ _ e hc▸hi))
  ·by_cases hcc:c'=c
   ·subst hcc;exact⟨_,hc'⟩
   ·obtain⟨w2,z2⟩:=I.cell y c' e
    exact⟨w2,z2.sameBut hs hcc⟩
  ·obtain⟨e,n,ne,nf,d⟩:=I.pin p hp
   refine⟨(hs.2 p.1 ?_).trans e,n,ne,nf,d⟩
   intro q
   rw[q,hoc] at e
   have q':oc=p.2:=Option.some.inj e
   exact d w' (by rw[<-q'];exact hocd)
theorem jUt {v:V}{Q:Unit->Shared->Prop}(I:Inv X pins σ H s)(hN:X.N.Nodup)(hi:X.N[i]? =some x)(hx:Loc X.env.scope x)(r:RelV v u)(h:∀s',Inv X pins (σ.set i (some v)) H s'->Q () s')(hf:X.fn x=true\/X.env.scope.names.lookup x=some .local:=by first | exact .inl rfl | exact .inr rfl | assumption):wpAny M A (storeName X.env x u) Q E s:=
 kU6 I hN hi hx r (fun s' I' _=>h s' I') hf
theorem Inv.call' (I:Inv X pins σ H s)(ho:s'.os=s.os)(u:Un (frs X.stack) ch H H' s.heap s'.heap)(hok:HOk X.prog X.w H' s'.heap)(hg:AllBare s'.gens)(hch:∀b∈ch,(b∈X.ex\/X.s₀.heap.objs.size<=b)/\b≠X.env.locals/\(∀x c,X.env.cells.lookup x=some c->c≠b)/\∀p∈X.pn++pins,p.1≠b):Inv X pins σ H' s':=by
 obtain⟨h',g',d',t',o'⟩:=s'
 have e:o'=s.os:=ho
 subst e
 exact I.call (g':=g') (t':=t') (d':=d') u hok hg hch
end
abbrev XK:=Value->Option Addr->Hp->Prop
abbrev St:=List (Option V)
abbrev VK:=V->Hp->Prop
abbrev TE:=St->Hp->VK->Prop
abbrev TT:=St->Hp->(Bool->Hp->Prop)->Prop
abbrev TA:=St->Hp->(List V->Hp->Prop)->Prop
structure Ends where
 nx:St->Hp->Prop
 rt:VK
 bk:St->Hp->Prop:=fun _ _=>False
 ct:St->Hp->Prop:=fun _ _=>False
abbrev TS:=Ends->St->Hp->Prop
def EP (X:Cx)(pins:List (Addr×Obj))(σ:St)(Q:VK)(u:Value)(s':Shared):Prop:=∃v H',Inv X pins σ H' s'/\RelV v u/\Q v H'
def AP (X:Cx)(pins:List (Addr×Obj))(σ:St)(Q:List V->Hp->Prop)(us:List Value)(s':Shared):Prop:=∃vs H',Inv X pins σ H' s'/\Vals vs us/\Q vs H'
noncomputable def SP (X:Cx)(pins:List (Addr×Obj))(D:Ends)(f:Flow)(s':Shared):Prop:=
 match f with
 | .next=>∃ σ' H',Inv X pins σ' H' s'/\D.nx σ' H'
 | .brk=>∃ σ' H',Inv X pins σ' H' s'/\D.bk σ' H'
 | .cont=>∃ σ' H',Inv X pins σ' H' s'/\D.ct σ' H'
 | .ret u=>∃v σ' H',Inv X pins σ' H' s'/\RelV v u/\D.rt v H'
noncomputable def PE (X:Cx)(e:Expr)(t:TE):Prop:=
 ∀(pins:List (Addr×Obj)) (s:Shared) (σ:St) (H:Hp) (Q:VK),Inv X pins σ H s->t σ H Q->wpAny (model X.prog X.w) X.A (eval e X.env) (EP X pins σ Q) X.xe s
noncomputable def PA (X:Cx)(es:List Expr)(t:TA):Prop:=
 ∀(pos:Pos) (pins:List (Addr×Obj)) (s:Shared) (σ:St) (H:Hp) (Q:List V->Hp->Prop),Inv X pins σ H s->t σ H Q->wpAny (model X.prog X.w) X.A (spliced (backTo pos (starEach es X.env))) (AP X pins σ Q) X.xe s
noncomputable def PSs (X:Cx)(st:List Stmt)(t:TS):Prop:=
 ∀(pins:List (Addr×Obj)) (s:Shared) (σ:St) (H:Hp) (D:Ends),Inv X pins σ H s->t D σ H->wpAny (model X.prog X.w) X.A (execs st X.env) (SP X pins D) X.xe s
theorem thn {α:Type}{t:Sem α}{Q Q':α->Shared->Prop}(h:wpAny M A t Q E s)(hQ:∀a s,Q a s->Q' a s):wpAny M A t Q' E s:=wpAny_mono h hQ fun _ _ x=>x
variable {pos:Pos}{σ:St}{Q:Value->Shared->Prop}{ta tb:TE}
section
def tVar (i:Nat):TE:=fun σ H Q=>∃v,σ[i]? =some (some v)/\Q v H
def tC (v:V):TE:=fun _ H Q=>Q v H
theorem jZ0 (hN:X.N[i]? =some x)(hv:Vis X.env.scope x)(hd:(x == ("__debug__":Str))=false:=by decide)(hcd:(x == ("__classdict__":Str))=false:=by decide):PE X (.Name x pos) (tVar i):=by
 intro pins s σ H Q I h
 obtain⟨v,e,h⟩:=h
 obtain⟨m,hn,hl⟩:=I.loc
 obtain⟨u,r,l⟩:=hl i x v hN e hv
 have fin:EP X pins σ Q u s:=⟨v,H,I,r,h⟩
 rcases l with ⟨hk,hm⟩ | ⟨hk,c,hc,hcell⟩
 ·exact wpAny_Name (wpAny_loadName_local I.ok.kind hk hn hm fin) hd
 ·rcases hk with hk | hk
  ·exact wpAny_Name (wpAny_loadName_cell I.ok.kind hk hc hcell fin) hd
  ·exact wpAny_Name (wpAny_loadName_free I.ok.kind hk hc hcell fin hcd) hd
theorem pe_int {i j pos}:PE X (.Constant (.int i) j pos) (tC (.int i)):=fun _ _ _ H _ I h=>wpAny_Constant_int ⟨.int i,H,I.tok _,⟨_,rfl⟩,h⟩
theorem pe_bl {b j pos}:PE X (.Constant (.bool b) j pos) (tC (.bl b)):=fun _ _ _ H _ I h=>Constant_bool ⟨.bl b,H,I,rfl,h⟩
theorem pe_non {j pos}:PE X (.Constant .none j pos) (tC .non):=fun _ _ _ H _ I h=>Constant_none ⟨.non,H,I,rfl,h⟩
theorem pe_str {x j pos}:PE X (.Constant (.str x) j pos) (tC (.str x)):=fun _ _ _ H _ I h=>Calls.Constant_str ⟨.str x,H,I.tok _,⟨_,rfl⟩,h⟩
def Gl (X:Cx)(x:Str):Prop:=X.env.kindOf x=some .globalImplicit
theorem jUn (I:Inv X pins σ H s)(hg:Gl X x)(hm:X.mg x=some u)(h:Q u s)(hd:(x == ("__debug__":Str))=false:=by decide):wpAny (model X.prog X.w) X.A (eval (.Name x pos) X.env) Q E s:=
 Calls.Name_function_global I.ok.kind hg (Calls.loadGlobal_global (by rw[I.ok.glob];exact I.mod.glob.keeps I.bk) hm h) hd
theorem jUf (I:Inv X pins σ H s)(hg:Gl X x)(hm:X.mg x=none)(hv:bootBuiltins x=some u)(h:Q u s)(hn:x≠"__name__":=by decide)(hd:(x == ("__debug__":Str))=false:=by decide):wpAny (model X.prog X.w) X.A (eval (.Name x pos) X.env) Q E s:=by
 obtain⟨mb,h1,h2⟩:=I.mod.blt
 exact Calls.Name_function_global I.ok.kind hg (Calls.loadGlobal_builtin (by rw[I.ok.glob];exact I.mod.glob.keeps I.bk) hm (by rw[I.ok.blt];exact h1.keeps I.bk) ((h2 x hn).trans hv) h) hd
variable {a b:Expr}
def tB (t:TE):TT:=fun σ H Q=>t σ H fun x H1=>∃c,x= .bl c/\Q c H1
variable {tA tB':TT}{rest:List Expr}
def tOrV (ta tb:TE):TE:=fun σ H Q=>ta σ H fun x H1=>∃c,x= .bl c/\if c=true then Q (.bl true) H1 else tb σ H1 Q
def tNotV (ta:TE):TE:=fun σ H Q=>ta σ H fun x H1=>∃c,x= .bl c/\Q (.bl (!c)) H1
end
noncomputable def SqL (K:PySem.W.Frag)(H:Hp)(a:Addr)(xs:List V):Prop:=
 Rd H a (.lst xs)\/
  ∃(o:Obj) (its:Array Value) (n:Nat),K.lookup a=some o/\o.cls= .type "list"/\o.dict=none/\o.data= .seq its n/\its.size<=sizeLine/\Vals xs its.toList
noncomputable def SqT (K:PySem.W.Frag)(H:Hp)(a:Addr)(xs:List V):Prop:=
 Rd H a (.tup xs)\/
  ∃(o:Obj) (its:Array Value) (n:Nat),K.lookup a=some o/\o.cls= .type "tuple"/\o.data= .seq its n/\its.size<=sizeLine/\Vals xs its.toList
noncomputable def absV:Value->Option V
 | .none=>some .non
 | .bool b=>some (.bl b)
 | .int i _=>some (.int i)
 | .str x _=>some (.str x)
 | .bytes b _=>some (.byt b)
 | .float b _=>some (.flt b)
 | .ref a=>some (.ref a)
 | .type n=>some (.ty n)
 | _=>none
theorem RelV.abs {x:V}(r:RelV x u):absV u=some x:=by
 cases x with
 | non=>cases r;rfl
 | bl _=>cases r;rfl
 | int _=>obtain⟨t,rfl⟩:=r;rfl
 | str _=>obtain⟨t,rfl⟩:=r;rfl
 | byt _=>obtain⟨t,rfl⟩:=r;rfl
 | flt _=>obtain⟨t,rfl⟩:=r;rfl
 | ref _=>cases r;rfl
 | ty _=>cases r;rfl
theorem RelV.inj {x y:V}(r:RelV x u)(q:RelV y u):x=y:=Option.some.inj (r.abs.symm.trans q.abs)
theorem Vals.inj {xs ys:List V}(h:Vals xs us)(g:Vals ys us):xs=ys:=by
 induction h generalizing ys with
 | nil=>(cases g;rfl)
 | cons r _ ih=>(cases g with | cons r' t'=>rw[r.inj r',ih t'])
variable {K:PySem.W.Frag}
section
variable {xs ys:List V}
theorem SqL.of (h:H a=some (.lst xs)):SqL K H a xs:= .inl (.inl h)
theorem SqT.of (h:H a=some (.tup xs)):SqT K H a xs:= .inl (.inl h)
theorem Inv.list (I:Inv X pins σ H s)(h:SqL X.K H a xs):∃its:List Value,Vals xs its/\PlainL s.heap a its.toArray/\xs.length<=sizeLine:=by
 rcases h with h | ⟨o,its,n,hk,hc,hd,hs,hz,r⟩
 ·obtain⟨z,its,n,r,e⟩:=h.ok I.hok
  exact⟨its,r,⟨_,n,e,rfl,rfl,rfl⟩,z⟩
 ·refine⟨its.toList,r,⟨o,n,I.kIn a o hk,hc,hd,by simpa using hs⟩,?_⟩
  have e:=r.length
  simp only[Array.length_toList] at e
  omega
theorem Inv.tuple (I:Inv X pins σ H s)(h:SqT X.K H a xs):∃its:List Value,Vals xs its/\IsTup s.heap a its.toArray/\xs.length<=sizeLine:=by
 rcases h with h | ⟨o,its,n,hk,hc,hs,hz,r⟩
 ·obtain⟨z,its,r,p⟩:=h.ok I.hok
  exact⟨its,r,p.is,z⟩
 ·refine⟨its.toList,r,⟨o,I.kIn a o hk,hc,n,by simpa using hs⟩,?_⟩
  have e:=r.length
  simp only[Array.length_toList] at e
  omega
theorem Inv.list_inj (I:Inv X pins σ H s)(h:SqL X.K H a xs)(h':SqL X.K H a ys):xs=ys:=by
 obtain⟨its,r,⟨o,n,e,_,_,d⟩,_⟩:=I.list h
 obtain⟨its',r',⟨o',n',e',_,_,d'⟩,_⟩:=I.list h'
 rw[e] at e';cases e'
 rw[d] at d'
 injection d' with d1 _
 have:its=its':=by simpa using congrArg Array.toList d1
 subst this
 exact r.inj r'
theorem Inv.tuple_inj (I:Inv X pins σ H s)(h:SqT X.K H a xs)(h':SqT X.K H a ys):xs=ys:=by
 obtain⟨its,r,⟨o,e,_,n,d⟩,_⟩:=I.tuple h
 obtain⟨its',r',⟨o',e',_,n',d'⟩,_⟩:=I.tuple h'
 rw[e] at e';cases e'
 rw[d] at d'
 injection d' with d1 _
 have:its=its':=by simpa using congrArg Array.toList d1
 subst this
 exact r.inj r'
end
abbrev Cx.wish (X:Cx)(E:Value->Shared->Prop):Cx:={X with xe:=E}
abbrev Cx.nox (X:Cx):Cx:=X.wish fun _ _=>False
theorem Cx.Ok.wish (ok:X.Ok)(E:Value->Shared->Prop):(X.wish E).Ok:=
 ⟨ok.mod,ok.kind,ok.glob,ok.blt,ok.above,ok.inj,ok.has,ok.cab,ok.hd,ok.gd,ok.frames,ok.stk,ok.exf,ok.bs,ok.bsz,ok.noex,ok.exfs,ok.funs,ok.frf⟩
theorem Cx.Ok.unwish (ok:(X.wish E).Ok):X.Ok:=
 ⟨ok.mod,ok.kind,ok.glob,ok.blt,ok.above,ok.inj,ok.has,ok.cab,ok.hd,ok.gd,ok.frames,ok.stk,ok.exf,ok.bs,ok.bsz,ok.noex,ok.exfs,ok.funs,ok.frf⟩
theorem Inv.wish (I:Inv X pins σ H s)(E:Value->Shared->Prop):Inv (X.wish E) pins σ H s:=⟨I.ok.wish E,I.os,I.bare,I.base,I.loc,I.cell,I.free,I.freeC,I.pin,I.hok,I.len⟩
theorem Inv.unwish (I:Inv (X.wish E) pins σ H s):Inv X pins σ H s:=⟨I.ok.unwish,I.os,I.bare,I.base,I.loc,I.cell,I.free,I.freeC,I.pin,I.hok,I.len⟩
theorem SP.unwish {D:Ends}{f:Flow}(h:SP (X.wish E) pins D f s'):SP X pins D f s':=by
 cases f with
 | next=>obtain⟨σ',H',I,q⟩:=h;exact⟨σ',H',I.unwish,q⟩
 | brk=>obtain⟨σ',H',I,q⟩:=h;exact⟨σ',H',I.unwish,q⟩
 | cont=>obtain⟨σ',H',I,q⟩:=h;exact⟨σ',H',I.unwish,q⟩
 | ret u=>obtain⟨v,σ',H',I,r,q⟩:=h;exact⟨v,σ',H',I.unwish,r,q⟩
theorem PSs.nox {st:List Stmt}{t:TS}(h:PSs X.nox st t):PSs X st t:=fun pins s σ H D I hw=>
 wpAny_mono (h pins s σ H D (I.wish _) hw) (fun _ _ q=>q.unwish) fun _ _ z=>False.elim z
variable {e:Expr}{te:TE}
section
variable {st:Stmt}{rest:List Stmt}{t u:TS}
theorem Inv.quiet (I:Inv X pins σ H s):interactive X.env=false:=by simp[interactive,I.ok.kind]
def tRetN:TS:=fun D _ H=>D.rt .non H
end
abbrev TSet:=V->V->V->Hp->(Hp->Prop)->Prop
noncomputable def PSet (X:Cx)(t:TSet):Prop:=
 ∀(pins:List (Addr×Obj)) (s:Shared) (σ:St) (H:Hp) (o i v:V) (ov iv u:Value) (Q:Hp->Prop),Inv X pins σ H s->RelV o ov->RelV i iv->RelV v u->t o i v H Q->
  wpAny (model X.prog X.w) X.A (setItem ov iv u) (fun _ s'=>∃H',Inv X pins σ H' s'/\Q H') X.xe s
def tPar (i j:Nat)(ta:TA):TS:=fun D σ H=>ta σ H fun vs H1=>∃v w,vs=[v,w]/\D.nx ((σ.set i (some v)).set j (some w)) H1
structure It where
 go:Nat->Hp->Prop
 yld:Nat->Hp->V->Hp->Prop
 stop:Nat->Hp->Prop
noncomputable def FpOk (X:Cx)(pins:List (Addr×Obj))(H:Hp)(b:Addr):Prop:=
 H b=none/\b≠X.env.locals/\b∉X.fs/\(b∈X.ex\/X.s₀.heap.objs.size<=b)/\(∀x c,X.env.cells.lookup x=some c->c≠b)/\∀p∈X.pn++pins,p.1≠b
theorem Inv.fpOk (I:Inv X pins σ H s)(hb:s.heap.objs.size<=b)(hn:H' b=none):FpOk X pins H' b:=by
 refine⟨hn,Nat.ne_of_gt (Nat.lt_of_lt_of_le I.lt hb),I.nofs hb,.inr (Nat.le_trans I.sz hb),fun x c e z=> ?_,fun p hp z=> ?_⟩
 ·obtain⟨v,q⟩:=I.cell x c e
  exact absurd (Nat.lt_of_lt_of_le q.lt (by rw[z];exact hb)) (Nat.lt_irrefl _)
 ·exact absurd (Nat.lt_of_lt_of_le (Heap.lt_size (I.pin p hp).1) (by rw[z];exact hb)) (Nat.lt_irrefl _)
structure Turn (P:Program) (w:World) (K:PySem.W.Frag) (tg:Expr) (J:It) (fp:List Addr) (it:Addr) (tn:Nat->Heap->Prop):Prop where
 mem:it∈fp
 obj:∀i h,tn i h->∀b∈fp,∃o,h.get? b=some o/\∀v,o.data≠ .cell v
 keep:∀i h h',tn i h->(∀b∈fp,∀o,h.get? b=some o->h'.get? b=some o)->tn i h'
 item:∀(X:Cx),X.prog=P->X.w=w->X.K=K->X.calm=true->∀(i:Nat) (pins:List (Addr×Obj)) (s:Shared) (σ:St) (H:Hp) (E:Value->Shared->Prop),Inv X pins σ H s->(∀b∈fp,FpOk X pins H b)->tn i s.heap->J.go i H->
  wpAny (model P w) X.A (pyNext (.ref it)) (fun r s1=>∃u,r=some u/\
   wpAny (model P w) X.A (letOwnedTupleGo tg (.ref it) u) (fun _ s2=>∃x H',Inv X pins σ H' s2/\RelV x u/\J.yld i H x H'/\tn (i+1) s2.heap/\∀b∈fp,H' b=none) E s1) E s
 done:∀(X:Cx),X.prog=P->X.w=w->X.K=K->X.calm=true->∀(i:Nat) (pins:List (Addr×Obj)) (s:Shared) (σ:St) (H:Hp) (E:Value->Shared->Prop),Inv X pins σ H s->(∀b∈fp,FpOk X pins H b)->tn i s.heap->J.stop i H->
  wpAny (model P w) X.A (pyNext (.ref it)) (fun r s1=>r=none/\Inv X pins σ H s1) E s
 self:∀(A:Around) (i:Nat) (s:Shared) (Q:Value->Shared->Prop) (E:Value->Shared->Prop),tn i s.heap->Q (.ref it) s->wpAny (model P w) A (pyIter (.ref it)) Q E s
abbrev TI:=St->Hp->(It->Hp->Prop)->Prop
noncomputable def PIE (X:Cx)(pins:List (Addr×Obj))(σ:St)(tg:Expr)(R:It->Hp->Prop)(itv:Value)(s2:Shared):Prop:=
 ∃(it:Addr) (fp:List Addr) (tn:Nat->Heap->Prop) (J:It) (H':Hp),itv= .ref it/\Inv X pins σ H' s2/\Turn X.prog X.w X.K tg J fp it tn/\tn 0 s2.heap/\(∀b∈fp,FpOk X pins H' b)/\R J H'
variable {tg:Expr}
theorem qKv {o:Obj}{n:String}{vs:Array Value}{Q:Unit->Shared->Prop}(ho:s.heap.get? it=some o)(hc:o.cls= .type n)(hd:o.data= .fields vs)(hn:["enumerate","zip","dict_itemiterator","dict_reverseitemiterator","odict_iterator","itertools.zip_longest","itertools.pairwise"].contains n=false)(hQ:Q () s):wpAny M A (letOwnedTupleGo tg (.ref it) u) Q E s:=by
 unfold letOwnedTupleGo
 cases tg<;>first
  | exact wpAny_pure hQ
  | (cases u<;>first
    | exact wpAny_pure hQ
    | (refine wpAny_bind (wpAny_load ho ?_)
       rw[hc,hd]
       show wpAny M A (if (["enumerate","zip","dict_itemiterator","dict_reverseitemiterator","odict_iterator","itertools.zip_longest","itertools.pairwise"].contains n&&vs[0]? == some (rawInt _))=true then _ else _) Q E s
       rw[if_neg (by intro h;rw[hn,Bool.false_and] at h;cases h)]
       exact wpAny_pure hQ))
noncomputable def Itl (K:PySem.W.Frag)(a:Addr):It:=
 ⟨fun i H=>∃xs x,SqL K H a xs/\xs[i]? =some x,fun i H x H'=>H'=H/\∀xs,SqL K H a xs->xs[i]? =some x,fun i H=>∃xs,SqL K H a xs/\xs.length<=i⟩
noncomputable def Itt (K:PySem.W.Frag)(a:Addr):It:=
 ⟨fun i H=>∃xs x,SqT K H a xs/\xs[i]? =some x,fun i H x H'=>H'=H/\∀xs,SqT K H a xs->xs[i]? =some x,fun i H=>∃xs,SqT K H a xs/\xs.length<=i⟩
def Itr (lo:Int)(n:Nat):It:=⟨fun i _=>i<n,fun i H x H'=>H'=H/\x= .int (lo+i),fun i _=>n<=i⟩
theorem kUx (a it:Addr):Turn P w K tg (Itl K a) [it] it (fun i h=>h.IsListIter it a i) where
 mem:=by simp
 obj:=fun i h st b hb=>by
  have e:b=it:=by simpa using hb
  subst e
  obtain⟨o,e,c,d⟩:=st
  exact⟨o,e,fun v z=>by rw[d] at z;cases z⟩
 keep:=fun i h h' st k=>st.at fun o e=>k it (by simp) o e
 item:=by
  intro X hP hw hK hc i pins s σ H E I hf st hg
  subst hP hw hK
  obtain⟨xs,x,hq,hx⟩:=hg
  obtain⟨its,rv,p,hz⟩:=I.list hq
  obtain⟨u,hu,ru⟩:=rv.get hx
  obtain⟨f0,f1,f2,f3,f4,f5⟩:=hf it (by simp)
  refine wpAny_pyNext_list_item st p.isList (x:=u) (by simpa using hu) fun h' st' sb=> ?_
  have I1:Inv X pins σ H {s with heap:=h'}:=I.turned (t':=s.toks) (fun b o hb e=>(sb.2 b hb).trans e) f0 f1 f3 f4 f5
  obtain⟨o,e,c,d⟩:=id st'
  exact⟨u,rfl,qKv (s:={s with heap:=h'}) e c d (by decide) ⟨x,H,I1,ru,⟨rfl,fun ys hy=>by rw[I.list_inj hy hq];exact hx⟩,st',fun b hb=>(hf b hb).1⟩⟩
 done:=by
  intro X hP hw hK hc i pins s σ H E I hf st hg
  subst hP hw hK
  obtain⟨xs,hq,hx⟩:=hg
  obtain⟨its,rv,p,hz⟩:=I.list hq
  obtain⟨f0,f1,f2,f3,f4,f5⟩:=hf it (by simp)
  have hl:=rv.length
  exact wpAny_pyNext_list_end (I.ok.hd hc) st p.isList (by simp;omega) fun h' eb=>⟨rfl,I.turned (t':=s.toks) (fun b o hb e=>eb b o hb e) f0 f1 f3 f4 f5⟩
 self:=fun _ _ _ _ _ st h=>wpAny_pyIter_listiter st h
theorem kQz (a it:Addr):Turn P w K tg (Itt K a) [it] it (fun i h=>h.IsTupleIter it a i) where
 mem:=by simp
 obj:=fun i h st b hb=>by
  have e:b=it:=by simpa using hb
  subst e
  obtain⟨o,e,c,d⟩:=st
  exact⟨o,e,fun v z=>by rw[d] at z;cases z⟩
 keep:=fun i h h' st k=>st.at fun o e=>k it (by simp) o e
 item:=by
  intro X hP hw hK hc i pins s σ H E I hf st hg
  subst hP hw hK
  obtain⟨xs,x,hq,hx⟩:=hg
  obtain⟨its,rv,p,hz⟩:=I.tuple hq
  obtain⟨u,hu,ru⟩:=rv.get hx
  obtain⟨f0,f1,f2,f3,f4,f5⟩:=hf it (by simp)
  refine wpAny_pyNext_tuple_item st (show s.heap.IsTuple a its.toArray from p) (x:=u) (by simpa using hu) fun h' st' sb=> ?_
  have I1:Inv X pins σ H {s with heap:=h'}:=I.turned (t':=s.toks) (fun b o hb e=>(sb.2 b hb).trans e) f0 f1 f3 f4 f5
  obtain⟨o,e,c,d⟩:=id st'
  exact⟨u,rfl,qKv (s:={s with heap:=h'}) e c d (by decide) ⟨x,H,I1,ru,⟨rfl,fun ys hy=>by rw[I.tuple_inj hy hq];exact hx⟩,st',fun b hb=>(hf b hb).1⟩⟩
 done:=by
  intro X hP hw hK hc i pins s σ H E I hf st hg
  subst hP hw hK
  obtain⟨xs,hq,hx⟩:=hg
  obtain⟨its,rv,p,hz⟩:=I.tuple hq
  obtain⟨f0,f1,f2,f3,f4,f5⟩:=hf it (by simp)
  have hl:=rv.length
  exact wpAny_pyNext_tuple_end (I.ok.hd hc) st (show s.heap.IsTuple a its.toArray from p) (by simp;omega) fun h' eb=>⟨rfl,I.turned (t':=s.toks) (fun b o hb e=>eb b o hb e) f0 f1 f3 f4 f5⟩
 self:=fun _ _ _ _ _ st h=>wpAny_pyIter_tupleiter st h
theorem kQ0 (it:Addr)(lo:Int)(n:Nat):Turn P w K tg (Itr lo n) [it] it (fun i h=>IsRangeIter h it (lo+(i:Nat)*1) ((n:Int)-(i:Nat)) 1) where
 mem:=by simp
 obj:=fun i h st b hb=>by
  have e:b=it:=by simpa using hb
  subst e
  exact⟨_,st,fun v z=>by
   have z':Data.fields _=Data.cell v:=z
   cases z'⟩
 keep:=fun i h h' st k=>k it (by simp) _ st
 item:=by
  intro X hP hw hK hc i pins s σ H E I hf st hg
  subst hP hw hK
  obtain⟨f0,f1,f2,f3,f4,f5⟩:=hf it (by simp)
  have W:=Walks.range (prog:=X.prog) (w:=X.w) (I.ok.hd hc) it lo 1 n
  refine W.item i s _ _ hg st fun v h' tk hv st' kk=> ?_
  obtain⟨t,rfl⟩:=hv
  have I1:Inv X pins σ H {s with heap:=h',toks:=tk}:=I.turned (fun b o hb e=>kk b o (by simpa using hb) e) f0 f1 f3 f4 f5
  refine⟨_,rfl,qKv (s:={s with heap:=h',toks:=tk}) (n:="range_iterator") st' rfl rfl (by decide) ⟨.int (lo+i),H,I1,⟨t,?_⟩,⟨rfl,rfl⟩,st',fun b hb=>(hf b hb).1⟩⟩
  rw[Int.mul_one]
 done:=by
  intro X hP hw hK hc i pins s σ H E I hf st hg
  subst hP hw hK
  obtain⟨f0,f1,f2,f3,f4,f5⟩:=hf it (by simp)
  exact wpAny_pyNext_range_end (I.ok.hd hc) st (by have:n<=i:=hg;omega) fun h' eb=>⟨rfl,I.turned (t':=s.toks) (fun b o hb e=>eb b o hb e) f0 f1 f3 f4 f5⟩
 self:=fun _ _ _ _ _ st h=>wpAny_pyIter_rangeiter st h
variable {fp:List Addr}
theorem kYy {R:It->Hp->Prop}{lo hi:Int}{t u v:Tok}{tk:Nat}(I:Inv X pins σ H s)(h1: -(2^62)<=lo)(h2:lo<2^62)(h3: -(2^62)<=hi)(h4:hi<2^62)(q:R (Itr lo (hi-lo).toNat) H):wpAny (model X.prog X.w) X.A (pyIter (.ref s.heap.objs.size)) (PIE X pins σ tg R) E {s with heap:=s.heap.push {cls:= .type "range",data:= .fields #[.int lo t,.int hi u,.int 1 v]},toks:=tk}:=by
 refine wpAny_pyIter_range (IsRange.new ..) (small_one h1 h2 h3 h4) ?_
 have I1:Inv X pins σ H {s with heap:=s.heap.push {cls:= .type "range",data:= .fields #[.int lo t,.int hi u,.int 1 v]},toks:=tk}:=I.kept fun b o e=>Heap.get?_push_of_some _ e
 refine⟨(s.heap.push {cls:= .type "range",data:= .fields #[.int lo t,.int hi u,.int 1 v]}).objs.size,[(s.heap.push {cls:= .type "range",data:= .fields #[.int lo t,.int hi u,.int 1 v]}).objs.size],_,_,H,rfl,
  I1.kept (t':=tk) fun b o e=>Heap.get?_push_of_some _ e,kQ0 _ lo (hi-lo).toNat,?_,fun b hb=> ?_,q⟩
 ·have e1:lo+((0:Nat):Int)*1=lo:=by simp
  have e2:(((hi-lo).toNat:Nat):Int)-((0:Nat):Int)=Builtin.Range.rangeSize lo hi 1:=by rw[rangeSize_one];split<;>omega
  show IsRangeIter _ _ (lo+((0:Nat):Int)*1) ((((hi-lo).toNat:Nat):Int)-((0:Nat):Int)) 1
  rw[e1,e2]
  exact Heap.get?_push_size _ rfl
 ·have e:b=(s.heap.push {cls:= .type "range",data:= .fields #[.int lo t,.int hi u,.int 1 v]}).objs.size:=by simpa using hb
  subst e
  exact I1.fpOk (Nat.le_refl _) (I1.hok.fresh (Nat.le_refl _))
def jUe (fp:List Addr)(h:Heap):List (Addr×Obj):=fp.filterMap fun b=>(h.get? b).map fun o=>(b,o)
theorem jQ7 {o:Obj}(hb:b∈fp)(e:h.get? b=some o):(b,o)∈jUe fp h:=List.mem_filterMap.mpr ⟨b,hb,by rw[e];rfl⟩
theorem kVm {p:Addr×Obj}(hp:p∈jUe fp h):p.1∈fp/\h.get? p.1=some p.2:=by
 obtain⟨b,hb,e⟩:=List.mem_filterMap.mp hp
 cases q:h.get? b with
 | none=>rw[q] at e;cases e
 | some o=>
  rw[q] at e
  have e':(b,o)=p:=Option.some.inj e
  subst e'
  exact⟨hb,q⟩
theorem Inv.pinned (I:Inv X pins σ H s)(hf:∀b∈fp,FpOk X pins H b)(ho:∀b∈fp,∃o,s.heap.get? b=some o/\∀v,o.data≠ .cell v):Inv X (pins++jUe fp s.heap) σ H s:=
 I.pins_of fun p hp=>(List.mem_append.mp hp).elim (fun z=>I.pin p (List.mem_append_right _ z)) fun z=>by
  obtain⟨hb,e⟩:=kVm z
  obtain⟨f0,f1,f2,_⟩:=hf p.1 hb
  obtain⟨o,e',d⟩:=ho p.1 hb
  rw[e] at e';cases e'
  exact⟨e,f0,f1,f2,d⟩
theorem Inv.unpinned {pl:List (Addr×Obj)}(I:Inv X (pins++pl) σ H s):Inv X pins σ H s:=I.pins_of fun p hp=>I.pin p (List.mem_append_right _ (List.mem_append_left _ hp))
abbrev R2:=V->V->Hp->VK->Prop
noncomputable def OpR (X:Cx)(f:Value->Value->Sem Value)(r:R2):Prop:=
 ∀(pins:List (Addr×Obj)) (s:Shared) (σ:St) (H:Hp) (x y:V) (v u:Value) (Q:VK),Inv X pins σ H s->RelV x v->RelV y u->r x y H Q->
  wpAny (model X.prog X.w) X.A (f v u) (EP X pins σ Q) X.xe s
noncomputable def UnR (X:Cx)(f:Value->Sem Value)(r:V->Hp->VK->Prop):Prop:=
 ∀(pins:List (Addr×Obj)) (s:Shared) (σ:St) (H:Hp) (x:V) (v:Value) (Q:VK),Inv X pins σ H s->RelV x v->r x H Q->
  wpAny (model X.prog X.w) X.A (f v) (EP X pins σ Q) X.xe s
noncomputable def kK0 (X:Cx)(f:Value)(r:List V->Hp->VK->Prop):Prop:=
 ∀(pins:List (Addr×Obj)) (s:Shared) (σ:St) (H:Hp) (xs:List V) (us:List Value) (Q:VK),Inv X pins σ H s->Vals xs us->r xs H Q->
  wpAny (model X.prog X.w) X.A (call f us) (EP X pins σ Q) X.xe s
def rI (C:Int->Int->Prop)(g:Int->Int->V):R2:=fun x y H Q=>∃i j,x= .int i/\y= .int j/\C i j/\Q (g i j) H
def rI0 (g:Int->Int->V):R2:=fun x y H Q=>∃i j,x= .int i/\y= .int j/\Q (g i j) H
def rU (g:Int->V):V->Hp->VK->Prop:=fun x H Q=>∃i,x= .int i/\Q (g i) H
variable {c:Expr}{tc:TE}{g:Int->Int->Int}
section
variable {a b:Expr}
theorem opI {f:Value->Value->Sem Value}{C:Int->Int->Prop}(rule:∀(i j:Int) (t u:Tok) (s:Shared) (Q:Value->Shared->Prop) (E:Value->Shared->Prop),C i j->Q (.int (g i j) s.toks) {s with toks:=s.toks+1}->wpAny (model X.prog X.w) X.A (f (.int i t) (.int j u)) Q E s):
  OpR X f (rI C fun i j=> .int (g i j)):=by
 intro pins s σ H x y v u Q I rx ry h
 obtain⟨i,j,rfl,rfl,hc,q⟩:=h
 obtain⟨t,rfl⟩:=rx
 obtain⟨t',rfl⟩:=ry
 exact rule i j t t' s _ _ hc ⟨.int (g i j),H,I.tok _,⟨_,rfl⟩,q⟩
theorem opI0 {f:Value->Value->Sem Value}(rule:∀(i j:Int) (t u:Tok) (s:Shared) (Q:Value->Shared->Prop) (E:Value->Shared->Prop),Q (.int (g i j) s.toks) {s with toks:=s.toks+1}->wpAny (model X.prog X.w) X.A (f (.int i t) (.int j u)) Q E s):
  OpR X f (rI0 fun i j=> .int (g i j)):=by
 intro pins s σ H x y v u Q I rx ry h
 obtain⟨i,j,rfl,rfl,q⟩:=h
 obtain⟨t,rfl⟩:=rx
 obtain⟨t',rfl⟩:=ry
 exact rule i j t t' s _ _ ⟨.int (g i j),H,I.tok _,⟨_,rfl⟩,q⟩
theorem opB0 {f:Value->Value->Sem Value}{g:Int->Int->Bool}(rule:∀(i j:Int) (t u:Tok) (s:Shared) (Q:Value->Shared->Prop) (E:Value->Shared->Prop),Q (.bool (g i j)) s->wpAny (model X.prog X.w) X.A (f (.int i t) (.int j u)) Q E s):
  OpR X f (rI0 fun i j=> .bl (g i j)):=by
 intro pins s σ H x y v u Q I rx ry h
 obtain⟨i,j,rfl,rfl,q⟩:=h
 obtain⟨t,rfl⟩:=rx
 obtain⟨t',rfl⟩:=ry
 exact rule i j t t' s _ _ ⟨.bl (g i j),H,I,rfl,q⟩
def CDiv (i j:Int):Prop:=0<j/\j<1073741824
def CPow (i j:Int):Prop:=0<=j/\j<=1000000/\i.natAbs<2^64
def CMul (i j:Int):Prop:=(-(2^64)<i/\i<2^64)\/(-(2^64)<j/\j<2^64)
theorem CMul.ok {i j:Int}(h:CMul i j):IntMulOk i j:=by
 rcases h with ⟨h1,h2⟩ | ⟨h1,h2⟩
 ·exact .of_left (intBits_le_64 h1 h2)
 ·exact .of_right (intBits_le_64 h1 h2)
theorem op_add:OpR X (binaryOp .Add) (rI0 fun i j=> .int (i+j)):=opI0 fun _ _ _ _ _ _ _ q=>add_int q
theorem op_mul:OpR X (binaryOp .Mult) (rI CMul fun i j=> .int (i*j)):=opI fun _ _ _ _ _ _ _ hc q=>mul_int q hc.ok
theorem qJ6:OpR X (binaryOp .FloorDiv) (rI CDiv fun i j=> .int (i / j)):=opI fun i j _ _ _ _ _ hc q=>by
 have h1:(0:Int)<j:=hc.1
 have h2:j<1073741824:=hc.2
 exact floordiv_int (by omega) (by rw[Int.fdiv_eq_ediv_of_nonneg i (by omega)];exact q) (.inl (PyProof.noPylong_small (by omega)))
theorem op_mod:OpR X (binaryOp .Mod) (rI (fun _ j=>0<j) fun i j=> .int (i%j)):=opI fun i j _ _ _ _ _ hc q=>by
 have h1:(0:Int)<j:=hc
 exact mod_int' (by omega) (by rw[Int.fmod_eq_emod_of_nonneg i (by omega)];exact q)
theorem op_pow:OpR X (binaryOp .Pow) (rI CPow fun i j=> .int (i^j.toNat)):=opI fun _ _ _ _ _ _ _ hc q=>pow_int_small hc.1 hc.2.1 hc.2.2 q
theorem unI {f:Value->Sem Value}{g:Int->Int}(rule:∀(i:Int) (t:Tok) (s:Shared) (Q:Value->Shared->Prop) (E:Value->Shared->Prop),Q (.int (g i) s.toks) {s with toks:=s.toks+1}->wpAny (model X.prog X.w) X.A (f (.int i t)) Q E s):
  UnR X f (rU fun i=> .int (g i)):=by
 intro pins s σ H x v Q I rx h
 obtain⟨i,rfl,q⟩:=h
 obtain⟨t,rfl⟩:=rx
 exact rule i t s _ _ ⟨.int (g i),H,I.tok _,⟨_,rfl⟩,q⟩
theorem un_neg:UnR X (unaryOp .USub) (rU fun i=> .int (-i)):=unI fun _ _ _ _ _ q=>neg_int q
end
section
variable {a b:Expr}
theorem qJh {Q:VK}{k k':Bool}(I:Inv X pins σ H s)(q:Q (.bl k) H)(e:k=k'):EP X pins σ Q (.bool k') s:=by
 subst e
 exact⟨.bl k,H,I,rfl,q⟩
theorem op_lt:OpR X (compareOp .Lt) (rI0 fun i j=> .bl (decide (i<j))):=opB0 fun _ _ _ _ _ _ _ q=>lt_int q
theorem op_le:OpR X (compareOp .LtE) (rI0 fun i j=> .bl (decide (i<=j))):=opB0 fun _ _ _ _ _ _ _ q=>le_int q
theorem op_gt:OpR X (compareOp .Gt) (rI0 fun i j=> .bl (decide (j<i))):=opB0 fun _ _ _ _ _ _ _ q=>gt_int q
theorem op_ge:OpR X (compareOp .GtE) (rI0 fun i j=> .bl (decide (j<=i))):=opB0 fun _ _ _ _ _ _ _ q=>ge_int q
theorem op_isN:OpR X (compareOp .Is) (fun x y H Q=>y= .non/\Q (.bl (decide (x= .non))) H):=by
 intro pins s σ H x y v u Q I rx ry h
 obtain⟨rfl,q⟩:=h
 cases ry
 refine is_none_gen (qJh I q ?_)
 cases x<;>first
  | (cases rx;rfl)
  | (obtain⟨t,rfl⟩:=rx;rfl)
theorem qJ5:OpR X (compareOp .IsNot) (fun x y H Q=>y= .non/\Q (.bl (!decide (x= .non))) H):=by
 intro pins s σ H x y v u Q I rx ry h
 obtain⟨rfl,q⟩:=h
 cases ry
 refine isnot_none_gen (qJh I q ?_)
 cases x<;>first
  | (cases rx;rfl)
  | (obtain⟨t,rfl⟩:=rx;rfl)
theorem nomark (b:Expr){op:CmpOp}(h:op≠ .In:=by decide)(h2:op≠ .NotIn:=by decide):behindInMarks op b=false:=by
 have e1:(op == CmpOp.In)=false:=by cases op<;>first | rfl | exact absurd rfl h
 have e2:(op == CmpOp.NotIn)=false:=by cases op<;>first | rfl | exact absurd rfl h2
 cases b<;>simp[behindInMarks,e1,e2]
theorem jZ9:(sizeLine:Nat)<2^63:=by rw[sizeLine_eq];decide
theorem kUw {x:V}(r:Vals [x] us):∃u,us=[u]/\RelV x u:=by
 cases r with
 | cons r1 r2=>cases r2;exact⟨_,rfl,r1⟩
theorem vals2 {x y:V}(r:Vals [x,y] us):∃u w',us=[u,w']/\RelV x u/\RelV y w':=by
 cases r with
 | cons r1 r2=>
  cases r2 with
  | cons r3 r4=>cases r4;exact⟨_,_,rfl,r1,r3⟩
theorem kZy:kK0 X (.builtin "abs") (fun xs H Q=>∃i,xs=[.int i]/\Q (.int (if i<0 then -i else i)) H):=by
 intro pins s σ H xs us Q I r h
 obtain⟨i,rfl,q⟩:=h
 obtain⟨u,rfl,t,rfl⟩:=kUw r
 exact call_abs_int fun u tk=>⟨.int (if i<0 then -i else i),H,I.tok _,⟨_,rfl⟩,q⟩
theorem kX1 (hc:X.calm=true):kK0 X (.builtin "max") (fun xs H Q=>∃i j,xs=[.int i,.int j]/\Q (.int (if j>i then j else i)) H):=by
 intro pins s σ H xs us Q I r h
 obtain⟨i,j,rfl,q⟩:=h
 obtain⟨u,w',rfl,⟨t,rfl⟩,⟨t',rfl⟩⟩:=vals2 r
 refine max_two_ints (I.ok.hd hc) fun h' tk k=>⟨_,H,I.kept k,?_,q⟩
 by_cases hj:j>i
 ·rw[if_pos hj,if_pos hj];exact⟨_,rfl⟩
 ·rw[if_neg hj,if_neg hj];exact⟨_,rfl⟩
theorem kX2:kK0 X (.type "int") (fun xs H Q=>(∃i,xs=[.int i]/\Q (.int i) H)\/∃k,xs=[.bl k]/\Q (.int (if k then 1 else 0)) H):=by
 intro pins s σ H xs us Q I r h
 rcases h with ⟨i,rfl,q⟩ | ⟨k,rfl,q⟩
 ·obtain⟨u,rfl,t,rfl⟩:=kUw r
  exact call_int_int ⟨.int i,H,I,⟨_,rfl⟩,q⟩
 ·obtain⟨u,rfl,r1⟩:=kUw r
  cases r1
  exact call_int_bool ⟨.int (if k then 1 else 0),H,I.tok _,⟨_,rfl⟩,q⟩
theorem kKx:kK0 X (.builtin "divmod") (fun xs H Q=>∃i j,xs=[.int i,.int j]/\CDiv i j/\∀p,H p=none->Q (.ref p) (upd H p (.tup [.int (i / j),.int (i%j)]))):=by
 intro pins s σ H xs us Q I r h
 obtain⟨i,j,rfl,⟨h1,h2⟩,q⟩:=h
 obtain⟨u,w',rfl,⟨t,rfl⟩,⟨t',rfl⟩⟩:=vals2 r
 refine divmod_int (by omega) ?_ (.inl (PyProof.noPylong_small (by omega)))
 rw[Int.fdiv_eq_ediv_of_nonneg i (by omega),Int.fmod_eq_emod_of_nonneg i (by omega)]
 have hn:H s.heap.objs.size=none:=I.hok.fresh (Nat.le_refl _)
 refine⟨.ref s.heap.objs.size,_,?_,rfl,q _ hn⟩
 refine I.laid (fun b o e=>Heap.get?_push_of_some _ e) (Nat.le_refl _) ⟨by simp only[List.length_cons,List.length_nil];rw[sizeLine_eq];decide,[.int (i / j) s.toks,.int (i%j) (s.toks+1)],.cons ⟨_,rfl⟩ (.cons ⟨_,rfl⟩ .nil),?_⟩
 exact⟨_,Heap.get?_push_size s.heap rfl,rfl,0,rfl,rfl⟩
end
structure ObjM (h:Heap) (x dx C:Addr) (mA:Str->Option Value):Prop where
 obj:h.get? x=some (PySem.W.instObj C dx)
 ns:h.Ns1 dx mA
 ne:dx≠x
variable {dx:Addr}{mA:Str->Option Value}
theorem jZ8 (n:h.Ns1 dx mA):∃od,h.get? dx=some od/\∀name,PySem.W.lookIn name od=some (mA name):=by
 obtain⟨o,es,ep,ho,hd,hk,_,hm⟩:=n
 refine⟨o,ho,fun name=> ?_⟩
 have e:=hm name
 unfold nsFind findBy at e
 rw[<-Array.find?_toList] at e
 unfold PySem.W.lookIn
 rw[hd]
 dsimp only
 split
 ·rename_i y q
  rw[q] at e
  exact congrArg some e
 ·rename_i q
  rw[q] at e
  have a:es.toList.any (·.refKey)=false:=by
   rw[List.any_eq_false]
   intro y hy
   obtain⟨z,t,hkey⟩:=hk y (Array.mem_toList_iff.mp hy)
   simp[DictEntry.refKey,hkey]
  have a':¬ es.toList.any (·.refKey)=true:=by rw[a];exact Bool.false_ne_true
  rw[if_neg a']
  exact congrArg some e
variable {C:Addr}
theorem ObjM.look {x:Addr}(I:ObjM h x dx C mA):∃od,PySem.W.InstAt h x (PySem.W.instObj C dx) C (some od)/\∀name,PySem.W.lookIn name od=some (mA name):=
 let ⟨od,ho,hl⟩:=jZ8 I.ns
 ⟨od,⟨I.obj,rfl,rfl,ho⟩,hl⟩
variable {f:Addr}{name:Str}{pl:Sem Bool}{kw:List (Str×Value)}
section
variable {x:Addr}{v:Value}
theorem qKx {expr:Bool}(X:K.In s.heap)(I:ObjM s.heap x dx C mA)(hg:PySem.W.plainGet K C name=true)(hh:PySem.W.hasDictIn K C=true)(ha:PySem.W.findIn K (.ref C) name=some none)(hv:mA name=some v)(hv':PySem.W.handedIn v=true)(h:Q v {s with toks:=s.toks+1}):
  wpAny (model prog w) A (getAttr (.ref x) name expr) Q E s:=by
 obtain⟨od,J,hl⟩:=I.look
 exact PySem.W.get_value X J (PySem.W.plainGet_of hg).1 (PySem.W.findObj_own hh ha rfl (by rw[hl,hv])) hv' h
theorem kZq {Q:Value×List Value->Shared->Prop}(X:K.In s.heap)(I:ObjM s.heap x dx C mA)(hg:PySem.W.plainGet K C name=true)(hf:PySem.W.findIn K (.ref C) name=some (some (.ref f)))(ht:PySem.W.isFn K (.ref f)=true)(hv:mA name=none)(h:Q (.ref f,[.ref x]) s):
  wpAny (model prog w) A (getMethod (.ref x) name pl) Q E s:=by
 obtain⟨od,J,hl⟩:=I.look
 exact PySem.W.method_fn X J (PySem.W.plainGet_of hg).1 (PySem.W.plainGet_of hg).2 hf (beq_iff_eq.mp ht) (by show (PySem.W.lookIn name od).map (·.isSome)=some false;rw[hl,hv];rfl) h
theorem qJy {ns:List Str}{Q:Unit->Shared->Prop}(X:K.In s.heap)(I:ObjM s.heap x dx C mA)(hs:PySem.W.findIn K (.ref C) "__setattr__"=some (some (.builtin "object.__setattr__")))(hp:PySem.W.plainOver K C=true)(ht:PySem.W.takerIn K C name=some none)(hh:PySem.W.hasDictIn K C=true)(hw:PySem.Within mA ns)(hsz:ns.length<=sizeLine)(h:∀h',ObjM h' x dx C (fun y=>if y=name then some v else mA y)->Heap.SameBut dx s.heap h'->Q () {s with heap:=h',toks:=s.toks+2}):
  wpAny (model prog w) A (setAttr (.ref x) name v) Q E s:=by
 obtain⟨od,J,hl⟩:=I.look
 refine PySem.W.set_plain X J hs (PySem.W.osa_open (s:={s with toks:=s.toks+1}) (r:=none) X J hp ht fun b=> ?_)
 obtain⟨cd,hc,hd'⟩:=PySem.W.any_some hh
 have hx:s.heap.get? x=some ⟨.ref C,some dx,.plain,#[]⟩:=I.obj
 refine wpAny_bind (wpAny_pure (wpAny_bind (wpAny_bind (wpAny_loadPart hx (wpAny_bind (PySem.W.Looks.here (s:={s with toks:=s.toks+1}) (PySem.W.looks_clsIn X hc) ?_))))))
 rw[hd']
 refine wpAny_pure (a:=some dx) (wpAny_bind (wpAny_pure (wpAny_bind ?_)))
 refine wpAny_nsSet1 (s:={s with toks:=s.toks+1}) I.ns fun h' hn2 hs2=> ?_
 obtain⟨oD,esD,epD,hoD,hdD,hcD⟩:=hn2.count (PySem.Within.cons name v hw)
 refine wpAny_bind (wpAny_lookBehind hoD (by rw[hdD];exact pastItsLine_dict (Nat.le_trans hcD (by rw[List.length_cons];omega))) ?_)
 exact wpAny_pure (h _ ⟨(hs2.2 _ (Ne.symm I.ne)).trans I.obj,hn2,I.ne⟩ hs2)
theorem kZi {R:Result->Shared->Prop}(X:K.In s.heap)(hm:PySem.W.makesIn K C=true)(hi:PySem.W.findIn K (.ref C) "__init__"=some (some (.ref f)))(hf:PySem.W.typeIn K (.ref f)=some (.type "function"))(h:codeAny (model prog w) (A.under (.builtin "type.__call__" ⟨.ref C::vs,kw⟩)) (.call (.ref f) ⟨.ref (s.heap.objs.size+1)::vs,kw⟩) (PySem.W.InitBack (s.heap.objs.size+1) R)
   {s with heap:=(s.heap.push PySem.W.emptyDict).push (PySem.W.instObj C s.heap.objs.size)}):
  codeAny (model prog w) A (.call (.ref C) ⟨vs,kw⟩) R s:=by
 obtain⟨hh,g,d,t,os⟩:=s
 exact PySem.W.make_core (PySem.W.makes_of X hm) (PySem.W.looks_findIn X hi) (fun self=>PySem.W.bind_fn X self hf) (.inl rfl) h
end
def putF (f:Str) (v:V):List (Str×V)->List (Str×V)
 | []=>[(f,v)]
 | (g,x)::r=>if g=f then (g,v)::r else (g,x)::putF f v r
theorem jXs (f g:Str) (v:V):∀fs:List (Str×V),(putF f v fs).lookup g=if g=f then some v else fs.lookup g
 | []=>by
  show List.lookup g [(f,v)]=_
  by_cases h:g=f
  ·have hb:(g == f)=true:=beq_iff_eq.mpr h
   simp only[List.lookup,hb,if_pos h]
  ·have hb:(g == f)=false:=beq_eq_false_iff_ne.mpr h
   simp only[List.lookup,hb,if_neg h]
 | (k,x)::r=>by
  have ih:=jXs f g v r
  rw[show putF f v ((k,x)::r)=(if k=f then (k,v)::r else (k,x)::putF f v r) from rfl]
  by_cases hk:k=f
  ·rw[if_pos hk]
   by_cases h:g=k
   ·have hb:(g == k)=true:=beq_iff_eq.mpr h
    simp only[List.lookup,hb,if_pos (h.trans hk)]
   ·have hb:(g == k)=false:=beq_eq_false_iff_ne.mpr h
    simp only[List.lookup,hb,if_neg (fun e:g=f=>h (e.trans hk.symm))]
  ·rw[if_neg hk]
   by_cases h:g=k
   ·have hb:(g == k)=true:=beq_iff_eq.mpr h
    simp only[List.lookup,hb,if_neg (fun e:g=f=>hk (h.symm.trans e))]
   ·have hb:(g == k)=false:=beq_eq_false_iff_ne.mpr h
    simp only[List.lookup,hb]
    exact ih
theorem jXu (f:Str) (v:V):∀fs:List (Str×V),f∈(putF f v fs).map (·.1)/\∀g,g∈fs.map (·.1)->g∈(putF f v fs).map (·.1)
 | []=>⟨by simp[putF],fun g h=>by simp at h⟩
 | (k,x)::r=>by
  obtain⟨i1,i2⟩:=jXu f v r
  rw[show putF f v ((k,x)::r)=(if k=f then (k,v)::r else (k,x)::putF f v r) from rfl]
  by_cases hk:k=f
  ·rw[if_pos hk]
   subst hk
   exact⟨by simp,fun g h=>by simpa using h⟩
  ·rw[if_neg hk]
   refine⟨?_,fun g h=> ?_⟩
   ·rw[List.map_cons]
    exact List.mem_cons_of_mem _ i1
   ·rw[List.map_cons] at h ⊢
    rcases (List.mem_cons.mp h) with e | e
    ·exact List.mem_cons.mpr (.inl e)
    ·exact List.mem_cons_of_mem _ (i2 g e)
theorem jXt (f:Str) (v:V):∀fs:List (Str×V),(putF f v fs).length<=fs.length+1
 | []=>by simp[putF]
 | (k,x)::r=>by
  have ih:=jXt f v r
  rw[show putF f v ((k,x)::r)=(if k=f then (k,v)::r else (k,x)::putF f v r) from rfl]
  by_cases hk:k=f
  ·rw[if_pos hk,List.length_cons,List.length_cons];omega
  ·rw[if_neg hk,List.length_cons,List.length_cons];omega
theorem RelO.some_of {v:V}{o:Option Value}(r:RelO (some v) o):∃u,o=some u/\RelV v u:=by
 cases o with
 | none=>exact (show False from r).elim
 | some u=>exact⟨u,rfl,r⟩
theorem RelO.none_of {o:Option Value}(r:RelO none o):o=none:=by
 cases o with
 | none=>rfl
 | some u=>exact (show False from r).elim
theorem kJe {v:V}(r:RelV v u):PySem.W.handedIn u=true:=by
 cases v with
 | non=>cases (show u=Value.none from r);rfl
 | bl b=>cases (show u=Value.bool b from r);rfl
 | int i=>obtain⟨t,e⟩:=(show ∃t,u=Value.int i t from r);cases e;rfl
 | str x=>obtain⟨t,e⟩:=(show ∃t,u=Value.str x t from r);cases e;rfl
 | byt b=>obtain⟨t,e⟩:=(show ∃t,u=Value.bytes b t from r);cases e;rfl
 | flt b=>obtain⟨t,e⟩:=(show ∃t,u=Value.float b t from r);cases e;rfl
 | ref a=>cases (show u=Value.ref a from r);rfl
 | ty n=>cases (show u=Value.type n from r);rfl
section
variable {fs fs':List (Str×V)}
theorem kKn (hok:HOk P w H h)(e:H a=some (.ins C dx fs)):∃mA,ObjM h a dx C mA/\(∀f,RelO (fs.lookup f) (mA f))/\PySem.Within mA (fs.map (·.1))/\fs.length<=1000/\H dx=some (.own a):=by
 obtain⟨d,z,ne,ob,mA,n,r,q⟩:=(show ObjOk P w H h a (.ins C dx fs) from hok a _ e)
 exact⟨mA,⟨ob,n,ne⟩,r,q,z,d⟩
end
structure Cls (K:PySem.W.Frag) (C:Addr):Prop where
 pg:PySem.W.plainGet K C Str.empty=true
 hd:PySem.W.hasDictIn K C=true
 po:PySem.W.plainOver K C=true
 sa:PySem.W.findIn K (.ref C) "__setattr__"=some (some (.builtin "object.__setattr__"))
theorem Cls.get (c:Cls K C)(f:Str):PySem.W.plainGet K C f=true:=c.pg
def NoAttr (K:PySem.W.Frag)(C:Addr)(f:Str):Prop:=PySem.W.findIn K (.ref C) f=some none
theorem NoAttr.taker {f:Str}(n:NoAttr K C f):PySem.W.takerIn K C f=some none:=by
 unfold PySem.W.takerIn
 rw[show PySem.W.findIn K (.ref C) f=some none from n]
 rfl
structure Meth (K:PySem.W.Frag) (C:Addr) (m:Str) (f:Addr):Prop where
 at_:PySem.W.findIn K (.ref C) m=some (some (.ref f))
 fn:PySem.W.isFn K (.ref f)=true
 kp:PySem.W.keepIn K (.ref f)=true
variable {m:Str}
section
variable {fs:List (Str×V)}{f:Str}{v:V}
theorem kUi {b:Bool}(I:Inv X pins σ H s)(e:H a=some (.ins C dx fs))(c:Cls X.K C)(n:NoAttr X.K C f)(l:fs.lookup f=some v)(h:∀u s',Inv X pins σ H s'->RelV v u->Q u s'):wpAny (model X.prog X.w) A (getAttr (.ref a) f b) Q E s:=by
 obtain⟨mA,O,r,_,_,_⟩:=kKn I.hok e
 obtain⟨u,hu,ru⟩:=RelO.some_of (v:=v) (o:=mA f) (by rw[<-l];exact r f)
 exact qKx I.kIn O (c.get f) c.hd n hu (kJe ru) (h u _ (I.tok _) ru)
theorem jUb {g:Addr}{Q:Value×List Value->Shared->Prop}(I:Inv X pins σ H s)(e:H a=some (.ins C dx fs))(c:Cls X.K C)(k:Meth X.K C m g)(l:fs.lookup m=none)(h:Q (.ref g,[.ref a]) s):wpAny (model X.prog X.w) A (getMethod (.ref a) m pl) Q E s:=by
 obtain⟨mA,O,r,_,_,_⟩:=kKn I.hok e
 have hn:mA m=none:=RelO.none_of (by rw[<-l];exact r m)
 exact kZq I.kIn O (c.get m) k.at_ k.fn hn h
theorem kQ3 {y:V}{Q:Unit->Shared->Prop}(I:Inv X pins σ H s)(e:H a=some (.ins C dx fs))(c:Cls X.K C)(n:NoAttr X.K C f)(hl:fs.length<1000)(ry:RelV y u)(h:∀s',Inv X pins σ (upd H a (.ins C dx (putF f y fs))) s'->Q () s'):wpAny (model X.prog X.w) A (setAttr (.ref a) f u) Q E s:=by
 obtain⟨mA,O,r,wi,_,ho⟩:=kKn I.hok e
 have hz:(fs.map (·.1)).length<=sizeLine:=by rw[List.length_map,sizeLine_eq];omega
 refine qJy I.kIn O c.sa c.po n.taker c.hd wi hz fun h' O' sb=>h _ ?_
 have hd:∃o,h'.get? dx=some o:=let ⟨o,_,_,e',_⟩:=O'.ns;⟨o,e'⟩
 refine I.write (x:=a) (e:=dx) (by rw[e];exact True.intro) (.inr ho) (fun b q hb z=>(sb.2 b hb).trans z) hd ?_
 refine⟨by rw[jJk O.ne];exact ho,?_,O.ne,O'.obj,_,O'.ns,fun g=> ?_,fun g hg=> ?_⟩
 ·have:=jXt f y fs;omega
 ·show RelO ((putF f y fs).lookup g) (if g=f then some u else mA g)
  rw[jXs]
  by_cases q:g=f
  ·rw[if_pos q,if_pos q];exact ry
  ·rw[if_neg q,if_neg q];exact r g
 ·by_cases q:g=f
  ·rw[q];exact (jXu f y fs).1
  ·refine (jXu f y fs).2 g (wi g fun z=>hg ?_)
   show (if g=f then some u else mA g)=none
   rw[if_neg q];exact z
theorem Inv.made (I:Inv X pins σ H s):Inv X pins σ (upd (upd H s.heap.objs.size (.own (s.heap.objs.size+1))) (s.heap.objs.size+1) (.ins C s.heap.objs.size []))
  {s with heap:=(s.heap.push PySem.W.emptyDict).push (PySem.W.instObj C s.heap.objs.size)}:=by
 have e1:(s.heap.push PySem.W.emptyDict).get? s.heap.objs.size=some PySem.W.emptyDict:=Heap.get?_push_size s.heap rfl
 have e2:((s.heap.push PySem.W.emptyDict).push (PySem.W.instObj C s.heap.objs.size)).get? (s.heap.objs.size+1)=some (PySem.W.instObj C s.heap.objs.size):=by
  have:=Heap.get?_push_size (s.heap.push PySem.W.emptyDict) (o:=PySem.W.instObj C s.heap.objs.size) rfl
  rwa [Heap.size_push] at this
 have e3:(s.heap.push PySem.W.emptyDict).Ns s.heap.objs.size (fun _=>none):=⟨PySem.W.emptyDict,#[],_,e1,rfl,(fun e he=>absurd he (by simp)),fun _=>rfl⟩
 have I1:=I.laid (a:=s.heap.objs.size) (o:= .own (s.heap.objs.size+1)) (h':=s.heap.push PySem.W.emptyDict) (t':=s.toks) (fun b u q=>Heap.get?_push_of_some _ q) (Nat.le_refl _) ⟨_,e1⟩
 refine I1.laid (a:=s.heap.objs.size+1) (o:= .ins C s.heap.objs.size []) (t':=s.toks) (fun b u q=>Heap.get?_push_of_some _ q) (Nat.le_of_eq (Heap.size_push _ _)) ?_
 have ne:s.heap.objs.size≠s.heap.objs.size+1:=Nat.ne_of_lt (Nat.lt_succ_self _)
 refine⟨by rw[jJk ne,jJn],Nat.zero_le _,ne,e2,fun _=>none,(Heap.Ns1.of_empty e3).at fun o q=>Heap.get?_push_of_some _ q,fun _=>True.intro,fun y hy=>absurd rfl hy⟩
theorem kX7 {env:Env}{f:Str}(hb:attributeBase e f env (eval e env)=eval e env)(h:wpAny (model prog w) A (eval e env) (fun o s₁=>wpAny (model prog w) A (getAttr o f true) Q E s₁) E s):wpAny (model prog w) A (eval (.Attribute e f pos) env) Q E s:=
 Attribute_any_ h (by rw[arm_eval_Attribute,hb])
end
section
variable {o value:Expr}{f:Str}{pos' tpos:Pos}{tv:TE}
def rSub:V->V->Hp->VK->Prop:=fun x y H Q=>∃i j,x= .int i/\y= .int j/\Q (.int (i-j)) H
end
section
variable {c:Value}{b:Bool}
end
structure Room (k:Nat) (A:Around):Prop where
 hd:A.handled=none
 gd:A.guards=some []
 dp:A.depth+3*k+5<recursionLimit
 un:A.units+16*k+200<cLine
theorem Room.mono {k:Nat}(r:Room k A)(h:j<=k):Room j A:=⟨r.hd,r.gd,by have:=r.dp;omega,by have:=r.un;omega⟩
theorem Room.deeper {k:Nat}(r:Room (k+1) A)(env:Env):Room k (A.deeper env):=
 ⟨r.hd,r.gd,by have:=r.dp;show A.depth+1+3*k+5<_;omega,by have:=r.un;show A.units+3+16*k+200<_;omega⟩
theorem kUf:(A.under (.builtin "type.__call__" ⟨.ref C::us,kw⟩)).depth=A.depth+1:=by
 first | rfl | simp[Around.under,Code.weight,Code.isCreation,Code.isGuard,Code.isCaller,Code.frames,Code.isFrame,guardIds]
theorem kUe:(A.under (.builtin "type.__call__" ⟨.ref C::us,kw⟩)).units=A.units+1:=by
 first | rfl | simp[Around.under,Code.cUnits,Code.frames,Code.isFrame]
theorem Room.make {k:Nat}(r:Room (k+1) A)(C:Addr)(us:List Value)(kw:List (Str×Value)):Room k (A.under (.builtin "type.__call__" ⟨.ref C::us,kw⟩)):=
 ⟨r.hd,r.gd,by have:=r.dp;rw[kUf];omega,by have:=r.un;rw[kUe];omega⟩
theorem Room.depth {k:Nat}(r:Room k A):A.depth<recursionLimit:=by have:=r.dp;omega
theorem Room.units {k:Nat}(r:Room k A):A.units+64<cLine:=by have:=r.un;omega
def tNil:TA:=fun _ H Q=>Q [] H
def jJa (ta:TE)(tr:TA):TA:=fun σ H Q=>ta σ H fun x H1=>tr σ H1 fun xs H2=>Q (x::xs) H2
variable {es:List Expr}
section
variable {t:TA}
theorem pa_nil:PA X [] tNil:=fun _ _ _ _ H Q I h=>Calls.spliced_nil ⟨[],H,I,.nil,h⟩
theorem pa_cons (ha:PE X e te)(hr:PA X es t)(hs:starEach (e::es) X.env=(false,eval e X.env)::starEach es X.env:=by rfl):PA X (e::es) (jJa te t):=by
 intro pos pins s σ H Q I h
 rw[hs]
 show wpAny _ _ (spliced ((false,eval e X.env)::backTo pos (starEach es X.env))) _ _ s
 refine Calls.spliced_cons (thn (ha pins s σ H _ I h) fun u s1 ⟨x,H1,I1,r1,q1⟩=> ?_)
 exact thn (hr pos pins s1 σ H1 _ I1 q1) fun us s2 ⟨xs,H2,I2,r2,q2⟩=>⟨x::xs,H2,I2,.cons r1 r2,q2⟩
end
abbrev Sp:=List V->Hp->VK->XK->Prop
abbrev CXT:=List Env->Hp->Shared->XK->Value->Shared->Prop
structure Env0 (P:Program) (w:World) (K:PySem.W.Frag) (mg:Str->Option Value) (base:Heap) (A:Around) (outer:List Env) (s:Shared) (H:Hp):Prop where
 frames:A.frames=some outer
 mod:Mod K mg base
 bs:∀b o,base.get? b=some o->s.heap.get? b=some o/\H b=none
 bsz:base.objs.size<=s.heap.objs.size
 funs:s.heap.FunFrames base outer
 frf:∀b∈frs outer,H b=none
 hok:HOk P w H s.heap
 bare:AllBare s.gens
noncomputable def CE (outer:List Env)(P:Program)(w:World)(H:Hp)(s:Shared)(Q:VK)(u:Value)(s':Shared):Prop:=
 ∃v H',s'.os=s.os/\AllBare s'.gens/\Un (frs outer) [] H H' s.heap s'.heap/\HOk P w H' s'.heap/\RelV v u/\Q v H'
noncomputable def CR (CX:CXT)(outer:List Env)(P:Program)(w:World)(H:Hp)(s:Shared)(Q:VK)(E:XK)(r:Result)(s':Shared):Prop:=
 match r with
 | .ok (.ret u)=>CE outer P w H s Q u s'
 | .ok _=>False
 | .error e=>CX outer H s E e s'
structure FnOk (P:Program) (w:World) (K:PySem.W.Frag) (mg:Str->Option Value) (base:Heap) (CX:CXT) (k:Nat) (f:Addr) (fd:FuncData) (ps:List Str) (sp:Sp):Prop where
 len:∀vs H Q E,sp vs H Q E->vs.length=ps.length
 run:∀(A:Around) (outer:List Env) (s:Shared) (H:Hp) (args:Args) (us:List Value) (vs:List V) (Q:VK) (E:XK),Room k A->Env0 P w K mg base A outer s H->BindsTo s fd args (ps.zip us)->Vals vs us->sp vs H Q E->
  codeAny (model P w) A (.call (.ref f) args) (CR CX outer P w H s Q E) s
variable {mg:Str->Option Value}{base:Heap}{outer:List Env}
theorem Env0.make (e:Env0 P w K mg base A outer s H)(C:Addr)(us:List Value)(kw:List (Str×Value)):
  Env0 P w K mg base (A.under (.builtin "type.__call__" ⟨.ref C::us,kw⟩)) outer s H:=⟨by first | exact e.frames | (simpa[Around.under,Code.envs,Code.isFrame,pushEnvs] using e.frames),e.mod,e.bs,e.bsz,e.funs,e.frf,e.hok,e.bare⟩
theorem Inv.env0 (I:Inv X pins σ H s):Env0 X.prog X.w X.K X.mg X.base X.A X.stack s H:=
 ⟨I.ok.frames,I.ok.mod,I.bs,Nat.le_trans I.ok.bsz I.sz,I.stack,I.stkFree,I.hok,I.bare⟩
theorem Inv.after {Q:VK}(I:Inv X pins σ H s)(h:CE X.stack X.prog X.w H s Q u s'):EP X pins σ Q u s':=by
 obtain⟨v,H',os,bare,un,hok,r,q⟩:=h
 obtain⟨hh,g,d,t,os'⟩:=s'
 obtain rfl:os'=s.os:=os
 exact⟨v,H',I.call (h':=hh) (g':=g) (d':=d) (t':=t) (ch:=[]) un hok bare (fun b z=>absurd z (by simp)),r,q⟩
noncomputable def Binds (K:PySem.W.Frag)(fd:FuncData)(ps:List Str)(ds:List Value):Prop:=
 ∀(s:Shared) (us:List Value),K.In s.heap->(us++ds).length=ps.length->BindsTo s fd ⟨us,[]⟩ (ps.zip (us++ds))
variable {fd:FuncData}{ps:List Str}
theorem Binds.all (h:∀us:List Value,us.length=ps.length->bindArgs fd ⟨us,[]⟩=pure (ps.zip us)):Binds K fd ps []:=fun s us _ hl=>by
 rw[List.append_nil] at hl ⊢
 exact .of_eq (h us hl)
def kYa (CX:CXT)(X:Cx)(E:XK):Prop:=∀(pins:List (Addr×Obj)) (σ:St) (H:Hp) (s:Shared) (e:Value) (s':Shared),Inv X pins σ H s->CX X.stack H s E e s'->X.xe e s'
variable {sp:Sp}{p apos:Pos}
section
variable {CX:CXT}{k:Nat}{dvs:List V}{ds:List Value}{E:XK}{o:Expr}{t:TA}
theorem kVb {Q:VK}{vs:List V}(F:FnOk X.prog X.w X.K X.mg X.base CX k f fd ps sp)(hr:Room k X.A)(hb:Binds X.K fd ps ds)(hd:Vals dvs ds)(hx:kYa CX X E)(I:Inv X pins σ H s)(r:Vals vs us)(h:sp (vs++dvs) H Q E):wpAny (model X.prog X.w) X.A (call (.ref f) us) (EP X pins σ Q) X.xe s:=by
 have r2:Vals (vs++dvs) (us++ds):=r.append hd
 have hl:(us++ds).length=ps.length:=by rw[<-r2.length];exact F.len _ _ _ _ h
 refine wpAny_call (codeAny_mono (F.run X.A X.stack s H ⟨us,[]⟩ (us++ds) (vs++dvs) Q E hr I.env0 (hb s us I.kIn hl) r2 h) fun r s' hq=> ?_)
 cases r with
 | error e=>exact hx pins σ H s e s' I hq
 | ok fl=>
  cases fl with
  | ret u=>exact I.after hq
  | next=>exact False.elim hq
  | brk=>exact False.elim hq
  | cont=>exact False.elim hq
structure Mk (K:PySem.W.Frag) (C f:Addr):Prop where
 makes:PySem.W.makesIn K C=true
 init:PySem.W.findIn K (.ref C) "__init__"=some (some (.ref f))
 fn:PySem.W.isFn K (.ref f)=true
 kp:PySem.W.keepIn K (.ref C)=true
theorem kYv {Q:VK}{vs:List V}(M:Mk X.K C f)(F:FnOk X.prog X.w X.K X.mg X.base CX k f fd ps sp)(hr:Room (k+1) X.A)(hb:Binds X.K fd ps ds)(hd:Vals dvs ds)(hx:kYa CX X E)(I:Inv X pins σ H s)(r:Vals vs us)(h:∀x dx,H x=none->H dx=none->dx≠x->sp (.ref x::(vs++dvs)) (upd (upd H dx (.own x)) x (.ins C dx [])) (fun v H2=>v= .non/\Q (.ref x) H2) E):
  wpAny (model X.prog X.w) X.A (call (.ref C) us) (EP X pins σ Q) X.xe s:=by
 have hq:=h (s.heap.objs.size+1) s.heap.objs.size (I.hok.fresh (Nat.le_succ _)) (I.hok.fresh (Nat.le_refl _)) (Nat.ne_of_lt (Nat.lt_succ_self _))
 have I2:=Inv.made (C:=C) I
 have r2:Vals (V.ref (s.heap.objs.size+1)::(vs++dvs)) (Value.ref (s.heap.objs.size+1)::(us++ds)):= .cons rfl (r.append hd)
 have hl:(Value.ref (s.heap.objs.size+1)::us++ds).length=ps.length:=by
  have e:=r2.length
  rw[F.len _ _ _ _ hq] at e
  exact e.symm
 refine wpAny_call (kZi (f:=f) I.kIn M.makes M.init (beq_iff_eq.mp M.fn) (codeAny_mono (F.run _ X.stack _ _ ⟨Value.ref (s.heap.objs.size+1)::us,[]⟩ (Value.ref (s.heap.objs.size+1)::(us++ds)) _ _ E (hr.make C us [])
  (I2.env0.make C us []) (hb _ (Value.ref (s.heap.objs.size+1)::us) I2.kIn hl) r2 hq) fun r s' hq'=> ?_))
 cases r with
 | error e=>exact hx pins σ _ _ e s' I2 hq'
 | ok fl=>
  cases fl with
  | ret u=>
   obtain⟨v,H',I3,rv,ev,q3⟩:=I2.after hq'
   subst ev
   exact⟨rv,⟨V.ref (s.heap.objs.size+1),H',I3,rfl,q3⟩⟩
  | next=>exact False.elim hq'
  | brk=>exact False.elim hq'
  | cont=>exact False.elim hq'
end
section
variable {CX:CXT}{k:Nat}{ks:List Str}{E:XK}{kpos:Pos}{o:Expr}{kws:List Keyword}{t tk:TA}{nm:Option Str}
variable {g:List Value->List Value->List Value}{gV:List V->List V->List V}
end
structure FnScope (N P:List Str) (sc:Scope):Prop where
 kind:sc.kind= .function
 co:sc.isCoroutine=false
 gen:sc.isGenerator=false
 nd:N.Nodup
 pre:N.take P.length=P
 par:∀x∈P,sc.names.lookup x=some .local\/sc.names.lookup x=some .cell
 nofree:∀y∈sc.names,y.2≠ .free
theorem kJp {kindOf:Str->Option NameKind} {x:Str}:∀ {binds:List (Str×Value)} {m:Str->Option Value},(∀v,(x,v)∉binds)->bindL kindOf binds m x=m x
 | [],_,_=>rfl
 | (n,v)::r,m,h=>by
  unfold bindL
  rw[kJp fun w hw=>h w (List.mem_cons_of_mem _ hw)]
  split
  ·have:x≠n:=by rintro rfl;exact h v List.mem_cons_self
   simp[this]
  ·rfl
theorem kJr {kindOf:Str->Option NameKind} {x:Str}:∀ {binds:List (Str×Value)} {m:Str->Option Value},(∀v,(x,v)∉binds)->bindC kindOf binds m x=m x
 | [],_,_=>rfl
 | (n,v)::r,m,h=>by
  unfold bindC
  rw[kJr fun w hw=>h w (List.mem_cons_of_mem _ hw)]
  split
  ·rfl
  ·have:x≠n:=by rintro rfl;exact h v List.mem_cons_self
   simp[this]
theorem kJq {kindOf:Str->Option NameKind} {x:Str} {v:Value}:∀ {P:List Str} {vs:List Value} {i:Nat} {m:Str->Option Value},P.Nodup->P[i]? =some x->vs[i]? =some v->kindOf x=some .local->
  bindL kindOf (P.zip vs) m x=some v
 | [],_,_,_,_,h,_,_=>by simp at h
 | _::_,[],_,_,_,_,h,_=>by simp at h
 | p::P,w::vs,0,m,nd,h1,h2,hk=>by
  simp at h1 h2;subst h1;subst h2
  show bindL kindOf ((p,w)::P.zip vs) m p=_
  unfold bindL
  rw[kJp fun v hv=>(List.nodup_cons.mp nd).1 (List.of_mem_zip hv).1,if_pos hk]
  simp
 | p::P,w::vs,i+1,m,nd,h1,h2,hk=>by
  show bindL kindOf ((p,w)::P.zip vs) m x=_
  unfold bindL
  exact kJq (i:=i) (List.nodup_cons.mp nd).2 (by simpa using h1) (by simpa using h2) hk
theorem kJs {kindOf:Str->Option NameKind} {x:Str} {v:Value}:∀ {P:List Str} {vs:List Value} {i:Nat} {m:Str->Option Value},P.Nodup->P[i]? =some x->vs[i]? =some v->kindOf x≠some .local->
  bindC kindOf (P.zip vs) m x=some v
 | [],_,_,_,_,h,_,_=>by simp at h
 | _::_,[],_,_,_,_,h,_=>by simp at h
 | p::P,w::vs,0,m,nd,h1,h2,hk=>by
  simp at h1 h2;subst h1;subst h2
  show bindC kindOf ((p,w)::P.zip vs) m p=_
  unfold bindC
  rw[kJr fun v hv=>(List.nodup_cons.mp nd).1 (List.of_mem_zip hv).1,if_neg hk]
  simp
 | p::P,w::vs,i+1,m,nd,h1,h2,hk=>by
  show bindC kindOf ((p,w)::P.zip vs) m x=_
  unfold bindC
  exact kJs (i:=i) (List.nodup_cons.mp nd).2 (by simpa using h1) (by simpa using h2) hk
def start (N:List Str)(vs:List V):St:=vs.map some++List.replicate (N.length-vs.length) none
noncomputable def cxOf (CX:CXT)(P:Program)(w:World)(K:PySem.W.Frag)(mg:Str->Option Value)(base:Heap)(N:List Str)(qual:Str)(scope:Scope)(f:Addr)(cd:Value)(A:Around)(outer:List Env)(s:Shared)(H:Hp)(E:XK):Cx where
 prog:=P
 w:=w
 K:=K
 mg:=mg
 base:=base
 A:=A.deeper (envOfC qual scope s.heap.objs.size f cd)
 N:=N
 s₀:=s
 H₀:=H
 env:=envOfC qual scope s.heap.objs.size f cd
 outer:=outer
 stack:=envOfC qual scope s.heap.objs.size f cd::outer
 ex:=[]
 calm:=true
 fn:=fun _=>true
 pn:=[]
 xe:=fun e s'=>wpAny (model P w) (A.deeper (envOfC qual scope s.heap.objs.size f cd)) (leaving (envOfC qual scope s.heap.objs.size f cd) e) (fun _ s''=>CX outer H s E e s'') (fun e' s''=>CX outer H s E e' s'') s'
theorem kQt {sc:Scope}{n:Nat}(h:sc.names.lookup x=some .cell):∃c,(cellsFrom n sc.names []).lookup x=some c:=by
 have q:=PySem.W.cellsFrom_some sc.names n [] (.inl h)
 exact Option.isSome_iff_exists.mp q
variable {qual:Str}{scope:Scope}
theorem kV3 {CX:CXT}{cd:Value}{s1:Shared}{E:XK}{vs:List V}(S:FnScope N ps scope)(hd:A.handled=none/\A.guards=some [])(e0:Env0 P w K mg base A outer s H)(hl:vs.length=ps.length)(r:Vals vs us)(x:InCallC s s.heap.objs.size (bindL (envOfC qual scope s.heap.objs.size f cd).kindOf (ps.zip us) fun _=>none) (cellsFrom (s.heap.objs.size+1) scope.names []) (bindC (envOfC qual scope s.heap.objs.size f cd).kindOf (ps.zip us) fun _=>none) s1):
  Inv (cxOf CX P w K mg base N qual scope f cd A outer s H E) [] (start N vs) H s1:=by
 have hpl:ps.length<=N.length:=by have:=congrArg List.length S.pre;rw[List.length_take] at this;omega
 obtain⟨h1,tk,rfl,hk⟩:=x.done
 have noA:∀b:Addr,b∉(cxOf CX P w K mg base N qual scope f cd A outer s H E).ex:=fun b z=>absurd (show b∈([]:List Addr) from z) (by simp)
 refine⟨⟨e0.mod,S.kind,rfl,rfl,Nat.le_refl _,fun y z c h1 h2=> ?_,fun y hy=> ?_,fun y c _ h=> ?_,fun _=>hd.1,fun _=>hd.2,Around.frames_deeper e0.frames,.inr ⟨rfl,rfl⟩,fun b z=>absurd z (noA b),e0.bs,e0.bsz,fun b _ _=>noA b,fun b z=>absurd z (noA b),e0.funs,e0.frf⟩,
  rfl,e0.bare,Un.kept hk,⟨_,x.toInCall.ns,fun i y v h1 h2 h3=> ?_⟩,fun y c h=>⟨_,x.cell y c h⟩,e0.hok.fresh (Nat.le_refl _),fun y c h=> ?_,fun p hp=>absurd (show p∈([]:List (Addr×Obj)) from hp) (by simp),e0.hok.kept hk,?_⟩
 ·exact name_of_addr x.apart (PySem.mem_of_lookup h1) (PySem.mem_of_lookup h2)
 ·have hy:scope.names.lookup y=some .cell\/scope.names.lookup y=some .free:=hy
  rcases hy with hy | hy
  ·exact kQt hy
  ·exact absurd rfl (S.nofree _ (PySem.mem_of_lookup hy))
 ·exact Nat.le_of_lt (x.above y c (PySem.mem_of_lookup h))
 ·have hi:i<vs.length:=by
   unfold start at h2
   by_cases hi:i<vs.length
   ·exact hi
   ·rw[List.getElem?_append_right (by simpa using hi)] at h2
    rw[List.getElem?_replicate] at h2
    split at h2<;>cases h2
  have ha:vs[i]? =some v:=by
   unfold start at h2
   rw[List.getElem?_append_left (by simpa using hi),List.getElem?_map] at h2
   cases e:vs[i]? with
   | none=>rw[e] at h2;cases h2
   | some a=>rw[e] at h2;cases h2;rfl
  obtain⟨u,hu,rv⟩:=r.get ha
  have hp:ps[i]? =some y:=by
   rw[<-S.pre,List.getElem?_take_of_lt (by omega)];exact h1
  have ndP:ps.Nodup:=by rw[<-S.pre];exact S.nd.sublist (List.take_sublist _ _)
  refine⟨u,rv,?_⟩
  rcases S.par y (List.mem_of_getElem? hp) with k | k
  ·exact .inl ⟨k,kJq ndP hp hu k⟩
  ·obtain⟨c,e⟩:=kQt (n:=s.heap.objs.size+1) k
   refine .inr ⟨.inl k,c,e,?_⟩
   have q:=x.cell y c e
   rw[kJs ndP hp hu (by show scope.names.lookup y≠_;rw[k];decide)] at q
   exact q
 ·exact e0.hok.fresh (Nat.le_of_lt (x.above y c (PySem.mem_of_lookup h)))
 ·unfold start
  show _=N.length
  rw[List.length_append,List.length_map,List.length_replicate]
  omega
theorem fn_of {CX:CXT}{k:Nat}{params:Arguments}{body:List Stmt}{dV kV doc pm cdv ct oc:Value}{an od:Option Addr}{osl:Array (Option Value)}(lk:K.lookup f=some ⟨oc,od,.func (PySem.W.fnOf name qual params body scope dV kV doc pm an cdv ct),osl⟩)(hcd:PySem.W.codeIn K cdv qual=true)(S:FnScope N ps scope)(len:∀vs H Q E,sp vs H Q E->vs.length=ps.length)(hbody:∀(A:Around) (outer:List Env) (s:Shared) (H:Hp) (vs:List V) (Q:VK) (E:XK),Room k (A.deeper (envOfC qual scope s.heap.objs.size f cdv))->sp vs H Q E->
   ∃t,PSs (cxOf CX P w K mg base N qual scope f cdv A outer s H E) body t/\t {nx:=fun _ H'=>Q .non H',rt:=Q} (start N vs) H):
  FnOk P w K mg base CX (k+1) f (PySem.W.fnOf name qual params body scope dV kV doc pm an cdv ct) ps sp:=by
 refine⟨len,fun A outer s H args us vs Q E hr e0 hb r hsp=> ?_⟩
 have hl:=len _ _ _ _ hsp
 have KX:K.In s.heap:=e0.mod.kin.keeps fun b o e=>(e0.bs b o e).1
 have lim:s.heap.NoLimit:=e0.mod.nolimit.keeps fun b o e=>(e0.bs b o e).1
 have hkind:∀y∈ps.zip us,scope.names.lookup y.1=some .local\/(scope.names.lookup y.1=some .cell/\((cellsFrom (s.heap.objs.size+1) scope.names []).lookup y.1).isSome=true):=fun ⟨n,v⟩ hy=>by
  rcases S.par n (List.of_mem_zip hy).1 with q | q
  ·exact .inl q
  ·exact .inr ⟨q,PySem.W.cellsFrom_some _ _ _ (.inl q)⟩
 refine codeAny_call_function hr.depth (KX _ _ lk) rfl S.co S.gen rfl (PySem.W.codeRec_of KX hcd) (hb _ _ _ _ ?_)
 refine wpAny_newFunctionEnv_cells S.kind hkind fun env he s1 x=> ?_
 subst he
 refine⟨lim.keeps x.toInCall.keep,codeAny_func ?_⟩
 obtain⟨t,ht,hq⟩:=hbody A outer s H vs Q E (hr.deeper _) hsp
 have I:Inv (cxOf CX P w K mg base N qual scope f cdv A outer s H E) [] (start N vs) H s1:=kV3 S ⟨hr.hd,hr.gd⟩ e0 hl r x
 refine wpAny_mono (ht [] s1 (start N vs) H _ I hq) (fun fl s' hs=> ?_) fun e s' hs=>hs
 have fin:∀ {σ':St} {H':Hp} {v:V} {u:Value},Inv (cxOf CX P w K mg base N qual scope f cdv A outer s H E) [] σ' H' s'->RelV v u->Q v H'->CE outer P w H s Q u s':=
  fun {σ' H' v u} J rv q=>⟨v,H',J.os,J.bare,J.base,J.hok,rv,q⟩
 cases fl with
 | ret u=>
  obtain⟨v,σ',H',J,rv,q⟩:=hs
  exact fin J rv q
 | next=>
  obtain⟨σ',H',J,q⟩:=hs
  exact fin (v:=V.non) (u:=Value.none) J rfl q
 | brk=>
  obtain⟨_,_,_,q⟩:=hs
  exact False.elim q
 | cont=>
  obtain⟨_,_,_,q⟩:=hs
  exact False.elim q
section
variable {t:TA}{id T:String}{r:List V->Hp->VK->Prop}
end
end L2
namespace HT
open PySem PyProof.Rows
theorem kZt (A:Around)(s:Shared)(a:Int)(t:Tok)(c:Int)(u:Tok):∃e,SeqAt.EqAt A s (.int a t) (.int c u) e/\(e=true↔a=c):=
 ⟨(a == c),SeqAt.EqAt.int_int a t c u,by simp⟩
section
open PySem.SeqAt
open PySem.AutoSeq1 (wpAny_loadPart')
open PySem.MeetsSeq PySem.MeetsSeq2 PySem.MeetsSeq3
end
variable {Q:Value->Shared->Prop}{sl:Addr}{vl vu:Value}{lo hi:Option Int}
section
variable {prog:Program}{w:World}{A:Around}{E:Value->Shared->Prop}{s:Shared}
theorem cat_tup {t b:Addr}{vs ws:List Value}(ht:IsTup s.heap t vs.toArray)(hb:IsTup s.heap b ws.toArray)(hv:vs≠[])(h1:ws=[]->Q (.ref t) s)(h2:ws≠[]->Q (.ref s.heap.objs.size) {s with heap:=s.heap.push {cls:= .type "tuple",data:= .seq (vs++ws).toArray} })(hsz:vs.length+ws.length<=sizeLine):wpAny (model prog w) A (binaryOp .Add (.ref t) (.ref b)) Q E s:=by
 obtain⟨⟨cls,dd,data,sl⟩,ho,hc,n,hd⟩:=id ht
 obtain⟨⟨cls2,dd2,data2,sl2⟩,ho2,hc2,n2,hd2⟩:=id hb
 simp only at hc hd hc2 hd2
 subst hc hd hc2 hd2
 have e:vs.toArray++ws.toArray=(vs++ws).toArray:=by simp
 by_cases hw:ws=[]
 ·exact concat_meets ⟨_,ho,rfl⟩ ⟨_,ho2,rfl⟩ noFill_tuple_add seq_tuple_add PySem.F.slot_tuple_add PySem.F.entry_tuple_add (PySem.F.args_tuple_add_2 _ _)
   (tuple_addW1 t b vs.toArray ws.toArray n n2 dd dd2 sl sl2 (by simpa using hv) (by simp[hw])) ⟨ho,ho2,h1 hw⟩
 ·refine concat_meets ⟨_,ho,rfl⟩ ⟨_,ho2,rfl⟩ noFill_tuple_add seq_tuple_add PySem.F.slot_tuple_add PySem.F.entry_tuple_add (PySem.F.args_tuple_add_2 _ _)
   (tuple_addW2 t b vs.toArray ws.toArray n n2 dd dd2 sl sl2 (by simpa using hv) (by simpa using hw) (by rw[List.size_toArray,List.size_toArray];exact hsz)) ⟨ho,ho2,?_⟩
  rw[e]
  exact h2 hw
def sIx (n d:Nat):Option Int->Nat
 | none=>d
 | some v=>if v<0 then (v+(n:Int)).toNat else min v.toNat n
theorem sIx_le (n d:Nat)(hd:d<=n)(o:Option Int):sIx n d o<=n:=by
 cases o with
 | none=>exact hd
 | some v=>
  show (if v<0 then (v+(n:Int)).toNat else min v.toNat n)<=n
  by_cases hv:v<0
  ·rw[if_pos hv];omega
  ·rw[if_neg hv];exact Nat.min_le_right _ _
theorem kX0 (v:Int)(n d:Nat):(if v<0 then max (v+(n:Int)) 0 else min v (n:Int))=((sIx n d (some v):Nat):Int):=by
 show (if v<0 then max (v+(n:Int)) 0 else min v (n:Int))=(((if v<0 then (v+(n:Int)).toNat else min v.toNat n):Nat):Int)
 by_cases hv:v<0
 ·simp only[if_pos hv];omega
 ·simp only[if_neg hv];omega
theorem kUp (lo hi:Option Int)(n:Nat):Builtin.Slice.sliceAdjust lo hi 1 (n:Int)=(((sIx n 0 lo:Nat):Int),((sIx n n hi:Nat):Int)):=by
 have h1:¬ ((1:Int)<0):=by omega
 unfold Builtin.Slice.sliceAdjust
 simp only[h1,if_false]
 refine Prod.ext ?_ ?_
 ·cases lo with
  | none=>rfl
  | some v=>exact kX0 v n 0
 ·cases hi with
  | none=>rfl
  | some v=>exact kX0 v n n
theorem kQ9 (i j:Nat):Builtin.Slice.slicePlaces (i:Int) (j:Int) 1=j-i:=by
 unfold Builtin.Slice.slicePlaces
 have h1:(1:Int)>0:=by omega
 simp only[h1,if_true,Int.ediv_one]
 split<;>omega
theorem jYk {v:Value}{o:Option Int}{Q:Option Int->Shared->Prop}(p:IsPart v o)(h:Q o s):wpAny (model prog w) A (Builtin.Slice.slicePartIndex v) Q E s:=by
 cases p with
 | none=>exact slicePart_none h
 | int i t=>exact slicePart_int h
theorem jQs {n:Nat}{Q:Int×Int×Nat->Shared->Prop}(hs:s.heap.IsSliceOf sl vl vu .none)(pl:IsPart vl lo)(pu:IsPart vu hi)(h:Q (((sIx n 0 lo:Nat):Int),1,sIx n n hi-sIx n 0 lo) s):wpAny (model prog w) A (Builtin.Slice.sliceApplied (.ref sl) (pure (n:Int))) Q E s:=by
 obtain⟨os,hos,hcs,hds⟩:=id hs
 unfold Builtin.Slice.sliceApplied Builtin.Slice.sliceFields
 refine wpAny_bind (wpAny_bind (wpAny_field hos hds (x:=vl) rfl (wpAny_bind (wpAny_field hos hds (x:=vu) rfl (wpAny_bind (wpAny_field hos hds (x:= .none) rfl (wpAny_pure ?_)))))))
 refine wpAny_bind (slicePart_none ?_)
 show wpAny _ _ (if ((1:Int) == 0)=true then _ else _) _ _ s
 rw[if_neg (by decide)]
 refine wpAny_bind (jYk pl (wpAny_bind (jYk pu (wpAny_bind (wpAny_pure ?_)))))
 show wpAny _ _ (match Builtin.Slice.sliceAdjust lo hi 1 (n:Int) with | (lo,hi)=>pure (lo,(1:Int),Builtin.Slice.slicePlaces lo hi 1)) _ _ s
 rw[kUp lo hi n]
 show wpAny _ _ (pure (((sIx n 0 lo:Nat):Int),(1:Int),Builtin.Slice.slicePlaces ((sIx n 0 lo:Nat):Int) ((sIx n n hi:Nat):Int) 1)) _ _ s
 rw[kQ9]
 exact wpAny_pure h
theorem kY2 (xs:Array Value)(i k:Nat):((List.range k).filterMap fun (m:Nat)=>xs[((i:Int)+(m:Int)*1).toNat]?).toArray=((xs.toList.drop i).take k).toArray:=by
 have e:(fun (m:Nat)=>xs[((i:Int)+(m:Int)*1).toNat]?)=fun m=>xs[i+m]? :=by
  funext m
  have:((i:Int)+(m:Int)*1).toNat=i+m:=by omega
  rw[this]
 rw[e]
 have:=pick_run xs i k
 rw[List.filterMap_map] at this
 have e2:((fun x=>xs[x]?)∘fun x=>i+x)=fun m=>xs[i+m]? :=rfl
 rw[e2] at this
 rw[this]
theorem getItem_tuple_cut {t:Addr}{items:Array Value}(ht:IsTup s.heap t items)(hs:s.heap.IsSliceOf sl vl vu .none)(pl:IsPart vl lo)(pu:IsPart vu hi)(hw:¬ (sIx items.size 0 lo=0/\sIx items.size items.size hi=items.size))(h:Q (.ref s.heap.objs.size) {s with heap:=s.heap.push {cls:= .type "tuple",data:= .seq ((items.toList.drop (sIx items.size 0 lo)).take (sIx items.size items.size hi-sIx items.size 0 lo)).toArray} })(hsz:items.size<=sizeLine):wpAny (model prog w) A (getItem (.ref t) (.ref sl)) Q E s:=by
 have htake:sizeOk (.seq ((items.toList.drop (sIx items.size 0 lo)).take (sIx items.size items.size hi-sIx items.size 0 lo)).toArray):=by
  show ((items.toList.drop (sIx items.size 0 lo)).take (sIx items.size items.size hi-sIx items.size 0 lo)).toArray.size<=sizeLine
  rw[List.size_toArray,List.length_take,List.length_drop,Array.length_toList]
  omega
 have hj:sIx items.size items.size hi<=items.size:=sIx_le _ _ (Nat.le_refl _) hi
 obtain⟨os,hos,hcs,hds⟩:=id hs
 have hTs:s.TypeIs (.ref sl) "slice":=⟨os,hos,hcs⟩
 unfold getItem
 try with_reducible refine wpAny_holding ?_
 first | refine wpAny_bind (wpAny_pure ?_) | skip
 refine wpAny_bind (wpAny_sequenceKey ht.typeIs (by decide) ?_)
 refine wpAny_bind (wpAny_callSpecial?_slot (name:=Str.ofString "__getitem__") ht.typeIs PyProof.Rows.slot_tuple_getitem
  (wpAny_call_entry PyProof.Rows.slot_tuple_getitem ht.typeIs entry_tuple_getitem ?_ (args_tuple_getitem _ _)))
 show wpAny _ _ (Builtin.Tuple.tupleItemsOf (.ref t) >>= _) _ _ s
 refine wpAny_bind (tupleItemsOf_ ht ?_)
 refine wpAny_bind (wpAny_typeOf hTs ?_)
 rw[if_pos (by decide)]
 refine wpAny_bind (jQs hs pl pu ?_)
 have hno:¬ ((((sIx items.size 0 lo:Nat):Int) == 0&&(1:Int) == 1&&(sIx items.size items.size hi-sIx items.size 0 lo) == items.size)=true):=by
  intro q
  rw[Bool.and_eq_true,Bool.and_eq_true] at q
  have q1:((sIx items.size 0 lo:Nat):Int)=0:=eq_of_beq q.1.1
  have q2:sIx items.size items.size hi-sIx items.size 0 lo=items.size:=eq_of_beq q.2
  exact hw ⟨by omega,by omega⟩
 show wpAny _ _ (if (((sIx items.size 0 lo:Nat):Int) == 0&&(1:Int) == 1&&(sIx items.size items.size hi-sIx items.size 0 lo) == items.size)=true then _ else _) _ _ s
 rw[if_neg hno,kY2]
 first
  | exact wpAny_bind (m:=Builtin.Tuple.tupleExact _) (wpAny_newObj_type (wpAny_pure ⟨_,rfl,wpAny_pure h⟩) htake)
  | exact wpAny_bind (m:=Builtin.Tuple.tupleExact _) (wpAny_newObj_type (wpAny_bind (wpAny_pure (wpAny_pure ⟨_,rfl,wpAny_pure h⟩))) htake)
  | exact wpAny_bind (wpAny_bind (m:=Builtin.Tuple.tupleExact _) (wpAny_newObj_type (wpAny_pure (wpAny_pure ⟨_,rfl,wpAny_pure h⟩)) htake))
  | exact wpAny_bind (wpAny_bind (m:=Builtin.Tuple.tupleExact _) (wpAny_newObj_type (wpAny_pure ⟨_,rfl,wpAny_pure h⟩) htake))
end
end HT
namespace L2
open PySem PySem.Spec PyProof.Rows
abbrev TO:=St->Hp->(Option Int->Hp->Prop)->Prop
theorem jYn {ns:List Int}:∀ {us:List Value},Vals (ns.map V.int) us->IntsAre us ns:=by
 induction ns with
 | nil=>intro us r;rw[List.map_nil] at r;cases r;exact .nil
 | cons n ns ih=>
  intro us r
  rw[List.map_cons] at r
  cases r with
  | cons r1 r2=>
   obtain⟨t,e⟩:=r1
   subst e
   exact .cons n t (ih r2)
variable {X:Cx}{e:Expr}{pos:Pos}{xs:List V}{us:List Value}
section
variable {te:TE}{lo hi:Option Expr}{tl th:TO}{p2:Pos}
noncomputable def SlR (X:Cx)(r:V->Option Int->Option Int->Hp->VK->Prop):Prop:=
 ∀(pins:List (Addr×Obj)) (s:Shared) (σ:St) (H:Hp) (x:V) (v vl vu:Value) (lo hi:Option Int) (sl:Addr) (Q:VK),Inv X pins σ H s->RelV x v->s.heap.IsSliceOf sl vl vu .none->IsPart vl lo->IsPart vu hi->r x lo hi H Q->
  ∃T id,typeLookup (.type T) "__getitem__"=pure (some (.builtin id))/\s.TypeIs v T/\wpAny (model X.prog X.w) X.A (getItem v (.ref sl)) (EP X pins σ Q) X.xe s
def cutV (xs:List V)(lo hi:Option Int):List V:=(xs.drop (HT.sIx xs.length 0 lo)).take (HT.sIx xs.length xs.length hi-HT.sIx xs.length 0 lo)
theorem jX4 (xs:List V)(lo hi:Option Int):(cutV xs lo hi).length<=xs.length:=by
 unfold cutV
 rw[List.length_take,List.length_drop]
 omega
noncomputable def rSlT (K:PySem.W.Frag):V->Option Int->Option Int->Hp->VK->Prop:=fun x lo hi H Q=>∃a xs,x= .ref a/\SqT K H a xs/\
 ¬ (HT.sIx xs.length 0 lo=0/\HT.sIx xs.length xs.length hi=xs.length)/\∀p,H p=none->Q (.ref p) (upd H p (.tup (cutV xs lo hi)))
theorem sl_tup:SlR X (rSlT X.K):=by
 intro pins s σ H x v vl vu lo hi sl Q I rx hs pl pu h
 obtain⟨a,xs,rfl,hx,hw,q⟩:=h
 cases rx
 obtain⟨its,r,ht,hz⟩:=I.tuple hx
 have hlen:its.toArray.size=xs.length:=by rw[List.size_toArray];exact r.length.symm
 refine⟨"tuple",_,PyProof.Rows.slot_tuple_getitem.lookup,ht.typeIs,?_⟩
 refine HT.getItem_tuple_cut ht hs pl pu (by rw[hlen];exact hw) ?_ (by rw[hlen];exact hz)
 rw[hlen]
 refine⟨.ref s.heap.objs.size,_,I.laid (t':=s.toks) (o:= .tup (cutV xs lo hi)) (fun b ob q=>Heap.get?_push_of_some _ q) (Nat.le_refl _) ?_,rfl,q _ (I.hok.fresh (Nat.le_refl _))⟩
 exact⟨Nat.le_trans (jX4 xs lo hi) hz,_,(r.drop (HT.sIx xs.length 0 lo)).take (HT.sIx xs.length xs.length hi-HT.sIx xs.length 0 lo),TupD.new _ _⟩
noncomputable def kY1 (K:PySem.W.Frag):R2:=fun x y H Q=>∃a b xs ys,x= .ref a/\y= .ref b/\SqT K H a xs/\SqT K H b ys/\xs≠[]/\xs.length+ys.length<=sizeLine/\
 (ys=[]->Q (.ref a) H)/\(ys≠[]->∀p,H p=none->Q (.ref p) (upd H p (.tup (xs++ys))))
theorem Vals.nil_iff (r:Vals xs us):us=[]↔xs=[]:=by
 cases r with
 | nil=>simp
 | cons _ _=>simp
theorem qJ7:OpR X (binaryOp .Add) (kY1 X.K):=by
 intro pins s σ H x y v u Q I rx ry h
 obtain⟨a,b,xs,ys,rfl,rfl,ha,hb,hx,hz,q1,q2⟩:=h
 cases rx
 cases ry
 obtain⟨its,r1,p1,_⟩:=I.tuple ha
 obtain⟨its2,r2,p2,_⟩:=I.tuple hb
 refine HT.cat_tup p1 p2 (fun z=>hx (r1.nil_iff.mp z)) (fun z=>⟨.ref a,H,I,rfl,q1 (r2.nil_iff.mp z)⟩) (fun z=> ?_) (by rw[<-r1.length,<-r2.length];exact hz)
 refine⟨.ref s.heap.objs.size,_,I.laid (t':=s.toks) (o:= .tup (xs++ys)) (fun b ob q=>Heap.get?_push_of_some _ q) (Nat.le_refl _) ?_,rfl,q2 (fun w=>z (r2.nil_iff.mpr w)) _ (I.hok.fresh (Nat.le_refl _))⟩
 exact⟨by rw[List.length_append];exact hz,_,r1.append r2,TupD.new _ _⟩
end
def ixN (n:Nat)(i:Int):Option Nat:=if 0<=i then (if i<n then some i.toNat else none) else if -(n:Int)<=i then some (i+n).toNat else none
def atI {α:Type}(xs:List α)(i:Int):Option α:=(ixN xs.length i).bind fun j=>xs[j]?
variable {n:Nat}{i:Int}
theorem kV1 {j:Nat}(h:ixN n i=some j):seqIndex? i n=some j/\j<n/\ -(n:Int)<=i/\i<n:=by
 unfold ixN at h
 by_cases h0:0<=i
 ·rw[if_pos h0] at h
  by_cases h1:i<n
  ·rw[if_pos h1] at h
   have e:i.toNat=j:=Option.some.inj h
   exact⟨by rw[seqIndex_of h0 h1,e],by omega,by omega,h1⟩
  ·rw[if_neg h1] at h;cases h
 ·rw[if_neg h0] at h
  by_cases h1: -(n:Int)<=i
  ·rw[if_pos h1] at h
   have e:(i+n).toNat=j:=Option.some.inj h
   exact⟨by rw[seqIndex_neg (by omega) h1,e],by omega,h1,by omega⟩
  ·rw[if_neg h1] at h;cases h
theorem kX9 {α:Type}{xs:List α}{v:α}(h:atI xs i=some v):∃j,seqIndex? i xs.length=some j/\xs[j]? =some v/\j<xs.length/\ -(xs.length:Int)<=i/\i<xs.length:=by
 unfold atI at h
 cases e:ixN xs.length i with
 | none=>rw[e] at h;cases h
 | some j=>
  rw[e] at h
  obtain⟨h1,h2,h3,h4⟩:=kV1 e
  exact⟨j,h1,h,h2,h3,h4⟩
def qQd (b:Expr):Prop:=∀o i,subscripted b false o i=operate [o,i] (getItem o i)
noncomputable def IxR (X:Cx)(r:R2):Prop:=
 ∀(value slice:Expr) (pins:List (Addr×Obj)) (s:Shared) (σ:St) (H:Hp) (x y:V) (v u:Value) (Q:VK),Inv X pins σ H s->RelV x v->RelV y u->r x y H Q->
  subscripted slice false v u=operate [v,u] (getItem v u)->wpAny (model X.prog X.w) X.A (subscriptTail value slice v u) (EP X pins σ Q) X.xe s
noncomputable def MtR (X:Cx)(id:String)(r:V->List V->Hp->VK->Prop):Prop:=
 ∀(pins:List (Addr×Obj)) (s:Shared) (σ:St) (H:Hp) (x:V) (xs:List V) (v:Value) (us:List Value) (Q:VK),Inv X pins σ H s->RelV x v->Vals xs us->r x xs H Q->
  wpAny (model X.prog X.w) X.A (call (.builtin id) (v::us)) (EP X pins σ Q) X.xe s
variable {pins:List (Addr×Obj)}{σ:St}{H:Hp}{s:Shared}{p:Addr}{ys:List V}{its its':List Value}{A:Around}{y x:V}{u:Value}{apos cpos:Pos}
section
variable {a b:Expr}{ta tb:TE}
theorem IxR.or {r r':R2}(h:IxR X r)(h':IxR X r'):IxR X (fun x y H Q=>r x y H Q\/r' x y H Q):=by
 intro value slice pins s σ H x y v u Q I rx ry q hs
 rcases q with q | q
 ·exact h value slice pins s σ H x y v u Q I rx ry q hs
 ·exact h' value slice pins s σ H x y v u Q I rx ry q hs
def rIxL (K:PySem.W.Frag):R2:=fun x y H Q=>∃p xs i v,x= .ref p/\y= .int i/\SqL K H p xs/\atI xs i=some v/\Q v H
def rIxT (K:PySem.W.Frag):R2:=fun x y H Q=>∃p xs i v,x= .ref p/\y= .int i/\SqT K H p xs/\atI xs i=some v/\Q v H
theorem ix_list:IxR X (rIxL X.K):=by
 intro value slice pins s σ H x y v u Q I rx ry h hs
 obtain⟨p,xs,i,z,rfl,rfl,hq,he,q⟩:=h
 cases rx
 obtain⟨t,rfl⟩:=ry
 obtain⟨its,r,pl,hz⟩:=I.list hq
 obtain⟨j,h1,h2,h3,h4,h5⟩:=kX9 he
 obtain⟨w,ew,rw'⟩:=r.get h2
 have hl:=r.length
 have hn:=jZ9
 have fin:EP X pins σ Q w s:=⟨z,H,I,rw',q⟩
 by_cases h0:0<=i
 ·have hj:i.toNat=j:=by
   rw[seqIndex_of h0 h5] at h1
   exact Option.some.inj h1
  exact item_listR pl.isList h0 (by omega) (by rw[hj];simpa using ew) fin hs
 ·have hj:(i+(its.toArray.size:Int)).toNat=j:=by
   rw[seqIndex_neg (by omega) h4] at h1
   rw[List.size_toArray,<-hl]
   exact Option.some.inj h1
  exact subscriptTail_builtinR (x:=w) pl.isList.typeIs slot_list_getitem.lookup
   (wpAny_getItem_list_neg (Q:=fun r s'=>r=w/\EP X pins σ Q r s') pl.isList (by omega) (by rw[List.size_toArray]<;>omega) (by omega) (by rw[hj];simpa using ew) ⟨rfl,fin⟩) hs
theorem ix_tup:IxR X (rIxT X.K):=by
 intro value slice pins s σ H x y v u Q I rx ry h hs
 obtain⟨p,xs,i,z,rfl,rfl,hq,he,q⟩:=h
 cases rx
 obtain⟨t,rfl⟩:=ry
 obtain⟨its,r,pl,hz⟩:=I.tuple hq
 obtain⟨j,h1,h2,h3,h4,h5⟩:=kX9 he
 obtain⟨w,ew,rw'⟩:=r.get h2
 have hl:=r.length
 have hn:=jZ9
 have fin:EP X pins σ Q w s:=⟨z,H,I,rw',q⟩
 exact subscriptTail_builtinR (x:=w) pl.typeIs slot_tuple_getitem.lookup
  (getItem_tuple (j:=j) (Q:=fun r s'=>r=w/\EP X pins σ Q r s') pl (by omega) (by omega) (by rw[List.size_toArray,<-hl];exact h1) (by simpa using ew) ⟨rfl,fin⟩) hs
theorem kUd (its:List Value)(n j:Nat)(u:Value):Obj.mapSeq (·.setIfInBounds j u) {cls:= .type "list",data:= .seq its.toArray n}={cls:= .type "list",data:= .seq (its.set j u).toArray n}:=by
 simp[Obj.mapSeq]
theorem Inv.lst (I:Inv X pins σ H s)(h:H p=some (.lst xs)):
  ∃(its:List Value) (n:Nat),Vals xs its/\s.heap.get? p=some {cls:= .type "list",data:= .seq its.toArray n}/\xs.length<=sizeLine:=by
 obtain⟨z,its,n,r,e⟩:=I.hok p _ h
 exact⟨its,n,r,e,z⟩
theorem Inv.lstUpd {n':Nat}{f:Obj->Obj}(I:Inv X pins σ H s)(h:H p=some (.lst xs))(ho:s.heap.get? p=some {cls:= .type "list",data:= .seq its.toArray n})(hf:f {cls:= .type "list",data:= .seq its.toArray n}={cls:= .type "list",data:= .seq its'.toArray n'})(r:Vals ys its')(hz:ys.length<=sizeLine)(t:Nat):
  Inv X pins σ (upd H p (.lst ys)) {s with heap:=s.heap.update p f,toks:=t}:=by
 have e:(s.heap.update p f).get? p=some {cls:= .type "list",data:= .seq its'.toArray n'}:=by
  rw[Heap.get?_update_self f ho (by rw[hf]<;>rfl),hf]
 refine I.write (x:=p) (e:=p) (by rw[h];trivial) (.inl rfl) (fun b u hb q=>(Heap.get?_update_other _ _ (Ne.symm hb)).trans q) ⟨_,e⟩ ?_
 exact⟨hz,its',n',r,e⟩
def kYz:V->V->V->Hp->(Hp->Prop)->Prop:=fun o i v H Q=>∃p xs k j,o= .ref p/\i= .int k/\H p=some (.lst xs)/\ixN xs.length k=some j/\Q (upd H p (.lst (xs.set j v)))
theorem kYq:PSet X kYz:=by
 intro pins s σ H o i v ov iv u Q I ro ri rv h
 obtain⟨p,xs,k,j,rfl,rfl,hp,hj,q⟩:=h
 cases ro
 obtain⟨t,rfl⟩:=ri
 obtain⟨its,n,r,ho,hz⟩:=I.lst hp
 obtain⟨h1,h2,h3,h4⟩:=kV1 hj
 have hl:=r.length
 have hn:=jZ9
 have I':Inv X pins σ (upd H p (.lst (xs.set j v))) {s with heap:=s.heap.update p (Obj.mapSeq (·.setIfInBounds j u))}:=
  I.lstUpd hp ho (kUd its n j u) (r.set rv j) (by rw[List.length_set];exact hz) s.toks
 by_cases h0:0<=k
 ·have hk:k.toNat=j:=by
   rw[seqIndex_of h0 h4] at h1
   exact Option.some.inj h1
  exact PySem.W.ki_setAt ho h0 (by omega) (by rw[List.size_toArray,<-hl];exact h4) (by rw[hk];exact⟨_,I',q⟩)
 ·have hk:(k+(its.toArray.size:Int)).toNat=j:=by
   rw[seqIndex_neg (by omega) h3] at h1
   rw[List.size_toArray,<-hl]
   exact Option.some.inj h1
  exact PySem.W.ki_setBack ho (by omega) (by rw[List.size_toArray,<-hl];exact h3) (by omega) (by rw[hk];exact⟨_,I',q⟩)
theorem jZu (lo hi:Option Int)(n:Nat):(sliceBounds lo hi none n).1=((HT.sIx n 0 lo:Nat):Int)/\(sliceBounds lo hi none n).2.1=((HT.sIx n n hi:Nat):Int)/\(sliceBounds lo hi none n).2.2=1:=by
 refine⟨?_,?_,rfl⟩
 ·cases lo with
  | none=>simp[sliceBounds,HT.sIx]
  | some i=>
   simp only[sliceBounds,HT.sIx,Option.getD_none,show (1:Int)>0 by decide,if_true]
   by_cases h:i<0
   ·simp only[h,if_true]<;>omega
   ·simp only[h,if_false]<;>omega
 ·cases hi with
  | none=>simp[sliceBounds,HT.sIx]
  | some i=>
   simp only[sliceBounds,HT.sIx,Option.getD_none,show (1:Int)>0 by decide,if_true]
   by_cases h:i<0
   ·simp only[h,if_true]<;>omega
   ·simp only[h,if_false]<;>omega
theorem jYx (its:List Value)(lo hi:Option Int):slicePick its.toArray lo hi none=((its.drop (HT.sIx its.length 0 lo)).take (HT.sIx its.length its.length hi-HT.sIx its.length 0 lo)).toArray:=by
 obtain⟨h1,h2,h3⟩:=jZu lo hi its.toArray.size
 unfold slicePick
 rw[h1,h2,h3]
 simp only[sliceRange_one,pick_run,List.size_toArray]<;>rfl
def rSlL (K:PySem.W.Frag):V->Option Int->Option Int->Hp->VK->Prop:=fun x lo hi H Q=>∃a xs,x= .ref a/\SqL K H a xs/\∀p,H p=none->Q (.ref p) (upd H p (.lst (cutV xs lo hi)))
theorem qJx:SlR X (rSlL X.K):=by
 intro pins s σ H x v vl vu lo hi sl Q I rx hs pl pu h
 obtain⟨a,xs,rfl,hx,q⟩:=h
 cases rx
 obtain⟨its,r,ht,hz⟩:=I.list hx
 have hlen:=r.length
 refine⟨"list",_,slot_list_getitem.lookup,ht.isList.typeIs,?_⟩
 refine wpAny_getItem_list_slice ht.isList hs pl pu .none (by simp) ?_ (by rw[List.size_toArray]<;>omega)
 rw[jYx,<-hlen]
 refine⟨.ref s.heap.objs.size,_,I.laid (t':=s.toks) (o:= .lst (cutV xs lo hi)) (fun b ob q=>Heap.get?_push_of_some _ q) (Nat.le_refl _) ?_,rfl,q _ (I.hok.fresh (Nat.le_refl _))⟩
 exact⟨Nat.le_trans (jX4 xs lo hi) hz,_,0,(r.drop (HT.sIx xs.length 0 lo)).take (HT.sIx xs.length xs.length hi-HT.sIx xs.length 0 lo),Heap.get?_push_size _ rfl⟩
def jYg:V->Bool
 | .non=>true
 | .bl _=>true
 | .int _=>true
 | .str _=>true
 | _=>false
noncomputable def eqV:V->V->Bool
 | .non,.non=>true
 | .bl a,.bl b=>a == b
 | .bl a,.int b=>(if a then 1 else 0) == b
 | .int a,.bl b=>a == (if b then 1 else 0)
 | .int a,.int b=>a == b
 | .str a,.str b=>a == b
 | _,_=>false
theorem eqAt_V {v:Value}(ry:RelV y u)(rx:RelV x v)(fy:jYg y=true)(fx:jYg x=true):SeqAt.EqAt A s u v (eqV y x):=by
 cases y with
 | non=>
  cases ry
  cases x with
  | non=>cases rx;exact SeqAt.EqAt.same _
  | bl b=>cases rx;exact SeqAt.EqAt.none_bool b
  | int b=>obtain⟨t,rfl⟩:=rx;exact SeqAt.EqAt.none_int b t
  | str b=>obtain⟨t,rfl⟩:=rx;exact SeqAt.EqAt.none_str b t
  | _=>exact absurd (show false=true from fx) Bool.false_ne_true
 | bl a=>
  cases ry
  cases x with
  | non=>cases rx;exact SeqAt.EqAt.bool_none a
  | bl b=>cases rx;exact SeqAt.EqAt.bool_bool a b
  | int b=>obtain⟨t,rfl⟩:=rx;exact SeqAt.EqAt.bool_int a b t
  | str b=>obtain⟨t,rfl⟩:=rx;exact SeqAt.EqAt.bool_str a b t
  | _=>exact absurd (show false=true from fx) Bool.false_ne_true
 | int a=>
  obtain⟨t',rfl⟩:=ry
  cases x with
  | non=>cases rx;exact SeqAt.EqAt.int_none a t'
  | bl b=>cases rx;exact SeqAt.EqAt.int_bool a t' b
  | int b=>obtain⟨t,rfl⟩:=rx;exact SeqAt.EqAt.int_int a t' b t
  | str b=>obtain⟨t,rfl⟩:=rx;exact SeqAt.EqAt.int_str a t' b t
  | _=>exact absurd (show false=true from fx) Bool.false_ne_true
 | str a=>
  obtain⟨t',rfl⟩:=ry
  cases x with
  | non=>cases rx;exact SeqAt.EqAt.str_none a t'
  | bl b=>cases rx;exact SeqAt.EqAt.str_bool a t' b
  | int b=>obtain⟨t,rfl⟩:=rx;exact SeqAt.EqAt.str_int a t' b t
  | str b=>obtain⟨t,rfl⟩:=rx;exact SeqAt.EqAt.str_str a t' b t
  | _=>exact absurd (show false=true from fx) Bool.false_ne_true
 | _=>exact absurd (show false=true from fy) Bool.false_ne_true
def eqU (x:V)(u:Value):Bool:=match u with
 | .none=>eqV .non x
 | .bool b=>eqV (.bl b) x
 | .int i _=>eqV (.int i) x
 | .str z _=>eqV (.str z) x
 | _=>false
theorem kXl (r:RelV y u)(f:jYg y=true):eqU x u=eqV y x:=by
 cases y with
 | non=>cases r;rfl
 | bl b=>cases r;rfl
 | int i=>obtain⟨t,rfl⟩:=r;rfl
 | str z=>obtain⟨t,rfl⟩:=r;rfl
 | _=>exact absurd (show false=true from f) Bool.false_ne_true
theorem jX7 {x:V}:∀ {xs:List V} {us:List Value},Vals xs us->xs.all jYg=true->us.any (eqU x)=xs.any fun y=>eqV y x
 | _,_,.nil,_=>rfl
 | y::xs,u::us,.cons r t,f=>by
  rw[List.all_cons,Bool.and_eq_true] at f
  rw[List.any_cons,List.any_cons,kXl r f.1,jX7 t f.2]
theorem jQ8 {A:Around} {s:Shared} {x:V} {v:Value} (rx:RelV x v) (fx:jYg x=true):∀ {xs:List V} {us:List Value},Vals xs us->xs.all jYg=true->∀u∈us,SeqAt.EqAt A s u v (eqU x u)
 | _,_,.nil,_=>fun u hu=>by cases hu
 | y::xs,u::us,.cons r t,f=>fun u' hu=>by
  rw[List.all_cons,Bool.and_eq_true] at f
  rcases (List.mem_cons.mp hu) with rfl | hu
  ·rw[kXl r f.1];exact eqAt_V r rx f.1 fx
  ·exact jQ8 rx fx t f.2 u' hu
def inV (x:V)(xs:List V):Bool:=xs.any fun y=>eqV y x
def rIn (K:PySem.W.Frag)(neg:Bool):R2:=fun x y H Q=>∃p xs,y= .ref p/\(SqL K H p xs\/SqT K H p xs)/\jYg x=true/\xs.all jYg=true/\Q (.bl (if neg then !inV x xs else inV x xs)) H
theorem kVj:OpR X (compareOp .In) (rIn X.K false):=by
 intro pins s σ H x y v u Q I rx ry h
 obtain⟨p,xs,rfl,hq,fx,fs,q⟩:=h
 cases ry
 rcases hq with hq | hq
 ·obtain⟨its,r,pl,hz⟩:=I.list hq
  refine SeqAt.in_listAt (eqU x) pl.isList (fun w hw=>jQ8 rx fx r fs w (by simpa using hw)) ⟨.bl _,H,I,rfl,?_⟩
  rw[show its.toArray.any (eqU x)=its.any (eqU x) by simp,jX7 r fs]
  exact q
 ·obtain⟨its,r,pl,hz⟩:=I.tuple hq
  refine SeqAt.in_tupleAt (eqU x) pl (fun w hw=>jQ8 rx fx r fs w (by simpa using hw)) ⟨.bl _,H,I,rfl,?_⟩
  rw[show its.toArray.any (eqU x)=its.any (eqU x) by simp,jX7 r fs]
  exact q
theorem jZ1:OpR X (compareOp .NotIn) (rIn X.K true):=by
 intro pins s σ H x y v u Q I rx ry h
 obtain⟨p,xs,rfl,hq,fx,fs,q⟩:=h
 cases ry
 rcases hq with hq | hq
 ·obtain⟨its,r,pl,hz⟩:=I.list hq
  refine SeqAt.notIn_listAt (eqU x) pl.isList (fun w hw=>jQ8 rx fx r fs w (by simpa using hw)) ⟨.bl _,H,I,rfl,?_⟩
  rw[show its.toArray.any (eqU x)=its.any (eqU x) by simp,jX7 r fs]
  exact q
 ·obtain⟨its,r,pl,hz⟩:=I.tuple hq
  refine SeqAt.notIn_tupleAt (eqU x) pl (fun w hw=>jQ8 rx fx r fs w (by simpa using hw)) ⟨.bl _,H,I,rfl,?_⟩
  rw[show its.toArray.any (eqU x)=its.any (eqU x) by simp,jX7 r fs]
  exact q
theorem kJo:kK0 X (.builtin "len") (fun xs H Q=>∃p ys,xs=[.ref p]/\(SqL X.K H p ys\/SqT X.K H p ys)/\Q (.int ys.length) H):=by
 intro pins s σ H xs us Q I r h
 obtain⟨p,ys,rfl,hq,q⟩:=h
 obtain⟨u,rfl,rx⟩:=kUw r
 cases rx
 have hn:=jZ9
 rcases hq with hq | hq
 ·obtain⟨its,r',pl,hz⟩:=I.list hq
  have hlen:=r'.length
  exact Calls.call_len_list pl.isList (by simp only[List.size_toArray]<;>omega) ⟨.int ys.length,H,I.tok _,⟨s.toks+1,by rw[List.size_toArray,hlen]⟩,q⟩
 ·obtain⟨its,r',pl,hz⟩:=I.tuple hq
  have hlen:=r'.length
  exact len_tuple pl (by simp only[List.size_toArray]<;>omega) ⟨.int ys.length,H,I.tok _,⟨s.toks+1,by rw[List.size_toArray,hlen]⟩,q⟩
theorem jZl:kK0 X (.type "tuple") (fun xs H Q=>∃p ys,xs=[.ref p]/\((SqL X.K H p ys/\∀l,H l=none->Q (.ref l) (upd H l (.tup ys)))\/(SqT X.K H p ys/\Q (.ref p) H))):=by
 intro pins s σ H xs us Q I r h
 obtain⟨p,ys,rfl,h⟩:=h
 obtain⟨u,rfl,rx⟩:=kUw r
 cases rx
 rcases h with ⟨hq,q⟩ | ⟨hq,q⟩
 ·obtain⟨its,r',pl,hz⟩:=I.list hq
  have hlen:=r'.length
  refine call_tuple_list pl.isList (fun h' kp=> ?_) (by simp only[List.size_toArray]<;>omega)
  have I1:Inv X pins σ H {s with heap:=h'}:=I.kept (t':=s.toks) kp
  have I2:Inv X pins σ (upd H h'.objs.size (.tup ys)) {s with heap:=h'.push {cls:= .type "tuple",data:= .seq its.toArray} }:=
   I1.laid (t':=s.toks) (fun b o e=>Heap.get?_push_of_some _ e) (Nat.le_refl _) (show ObjOk X.prog X.w _ _ _ (.tup ys) from⟨hz,its,r',TupD.new _ _⟩)
  exact⟨.ref h'.objs.size,_,I2,rfl,q _ (I1.hok.fresh (Nat.le_refl _))⟩
 ·obtain⟨its,r',pl,hz⟩:=I.tuple hq
  exact call_tuple_same pl ⟨.ref p,H,I,rfl,q⟩
noncomputable def tyV (K:PySem.W.Frag)(T:String)(x:V)(H:Hp):Prop:=match x with
 | .str _=>T="str"
 | .int _=>T="int"
 | .ref p=>(T="list"/\∃xs,SqL K H p xs)\/(T="tuple"/\∃o,K.lookup p=some o/\o.cls= .type "tuple"/\o.dict=none)\/
   (T="dict"/\((∃kvs,H p=some (.dK kvs))\/∃kvs,H p=some (.dT kvs)))\/(T="set"/\∃S n,H p=some (.set S n))
 | _=>False
theorem tyV_is {T:String}{v:Value}(I:Inv X pins σ H s)(r:RelV x v)(ty:tyV X.K T x H):
  s.TypeIs v T/\∀a,v= .ref a->∃ob,s.heap.get? a=some ob/\ob.dict=none:=by
 cases x with
 | str z=>
  obtain⟨t,rfl⟩:=r
  cases (show T="str" from ty)
  exact⟨typeIs_str s z t,fun _ e=>nomatch e⟩
 | int i=>
  obtain⟨t,rfl⟩:=r
  cases (show T="int" from ty)
  exact⟨typeIs_int s i t,fun _ e=>nomatch e⟩
 | ref p=>
  cases r
  rcases ty with ⟨rfl,xs,hq⟩ | ⟨rfl,o,hk,hc,hd⟩ | ⟨rfl,hk⟩ | ⟨rfl,S,n,hk⟩
  ·obtain⟨its,_,pl,_⟩:=I.list hq
   refine⟨pl.isList.typeIs,fun a e=> ?_⟩
   cases e
   obtain⟨o,n,e,c,hd,_⟩:=pl
   exact⟨o,e,hd⟩
  ·refine⟨⟨o,I.kIn p o hk,hc⟩,fun a e=> ?_⟩
   cases e
   exact⟨o,I.kIn _ o hk,hd⟩
  ·have z:∃o,s.heap.get? p=some o/\o.ExactDict:=by
    rcases hk with ⟨kvs,hk⟩ | ⟨kvs,hk⟩
    ·obtain⟨_,_,_,_,o,_,_,e,ex,_⟩:=I.hok p _ hk
     exact⟨o,e,ex⟩
    ·obtain⟨_,_,_,_,o,_,_,e,ex,_⟩:=I.hok p _ hk
     exact⟨o,e,ex⟩
   obtain⟨o,e,ex⟩:=z
   refine⟨⟨o,e,ex.1⟩,fun a e2=> ?_⟩
   cases e2
   exact⟨o,e,ex.2.1⟩
  ·obtain⟨o,_,_,_,e,ex,_⟩:=I.hok p _ hk
   refine⟨⟨o,e,ex.1⟩,fun a e2=> ?_⟩
   cases e2
   exact⟨o,e,ex.2.1⟩
 | _=>exact False.elim ty
variable {o:Expr}{es:List Expr}{to:TE}{t:TA}{name:Str}{T id:String}{r:V->List V->Hp->VK->Prop}
end
noncomputable def MtM (X:Cx)(id:String)(r:V->List V->Hp->VK->Prop):Prop:=
 ∀(pins:List (Addr×Obj)) (s:Shared) (σ:St) (H:Hp) (x:V) (xs:List V) (v:Value) (us:List Value) (Q:VK),Inv X pins σ H s->RelV x v->Vals xs us->r x xs H Q->
  wpAny (model X.prog X.w) X.A (call (.builtin id) (v::us)) (EP X pins σ Q) X.xe s
theorem Vals.one (h:Vals [x] us):∃u,us=[u]/\RelV x u:=by
 cases h with | cons r t=>(cases t;exact⟨_,rfl,r⟩)
theorem Vals.two (h:Vals [x,y] us):∃u v,us=[u,v]/\RelV x u/\RelV y v:=by
 cases h with | cons r t=>(cases t with | cons q t=>(cases t;exact⟨_,_,rfl,r,q⟩))
theorem Vals.rep {xs:List V} {us:List Value} (h:Vals xs us):∀k:Nat,Vals (List.replicate k xs).flatten (List.replicate k us).flatten
 | 0=> .nil
 | k+1=>by
  rw[List.replicate_succ,List.replicate_succ,List.flatten_cons,List.flatten_cons]
  exact Vals.append h (Vals.rep h k)
theorem kJg (its:List Value):∀(k:Nat) (acc:List Value),
  List.foldl (fun x1 x2=>x1++x2) acc.toArray (List.replicate k its.toArray)=(acc++(List.replicate k its).flatten).toArray
 | 0,acc=>by simp
 | k+1,acc=>by
  have e:acc.toArray++its.toArray=(acc++its).toArray:=by simp
  have e2:(acc++its)++(List.replicate k its).flatten=acc++(List.replicate (k+1) its).flatten:=by
   rw[List.replicate_succ,List.flatten_cons,List.append_assoc]
  rw[<-e2,<-kJg its k (acc++its),<-e,List.replicate_succ,List.foldl_cons]
variable {b:Addr}
section
variable {l:Addr}{zs:List V}
theorem Inv.lset {f:Array Value->Array Value}{t':Nat}(I:Inv X pins σ H s)(hH:H l=some (.lst xs))(e:s.heap.get? l=some {cls:= .type "list",data:= .seq its.toArray n})(hf:f its.toArray=its'.toArray)(hv:Vals ys its')(hz:ys.length<=sizeLine):
  Inv X pins σ (upd H l (.lst ys)) {s with heap:=s.heap.update l (Obj.mapSeq f),toks:=t'}:=by
 have q:=PySem.IsL.update e f
 rw[hf] at q
 refine I.write (x:=l) (e:=l) (by rw[hH];exact trivial) (.inl rfl) (fun b' u hb hu=>(Heap.get?_update_other s.heap (Obj.mapSeq f) (Ne.symm hb)).trans hu) ⟨_,q⟩ ?_
 exact⟨hz,its',_,hv,q⟩
theorem Inv.lnew {t':Nat}(I:Inv X pins σ H s)(hv:Vals ys its)(hz:ys.length<=sizeLine):
  Inv X pins σ (upd H s.heap.objs.size (.lst ys)) {s with heap:=s.heap.push {cls:= .type "list",data:= .seq its.toArray},toks:=t'}:=
 I.laid (fun _ _ q=>Heap.get?_push_of_some _ q) (Nat.le_refl _) ⟨hz,its,0,hv,Heap.get?_push_size _ rfl⟩
theorem Inv.fresh (I:Inv X pins σ H s):H s.heap.objs.size=none:=I.hok.fresh (Nat.le_refl _)
theorem Inv.lstM (I:Inv X pins σ H s)(hH:H l=some (.lst xs)):xs.length<=sizeLine/\∃(its:List Value) (n:Nat),Vals xs its/\xs.length=its.length/\s.heap.get? l=some {cls:= .type "list",data:= .seq its.toArray n}:=by
 obtain⟨z,its,n,r,e⟩:=I.hok l _ hH
 exact⟨z,its,n,r,r.length,e⟩
theorem kZb (h:n<=sizeLine):Builtin.List.listTooLong n=false:=by
 unfold Builtin.List.listTooLong
 exact decide_eq_false (by omega)
end
def jQn:V->List V->Hp->VK->Prop:=fun x vs H Q=>∃l xs y,x= .ref l/\vs=[y]/\H l=some (.lst xs)/\xs.length<sizeLine/\Q .non (upd H l (.lst (xs++[y])))
theorem kVr:MtM X "list.append" jQn:=by
 intro pins s σ H x vs v us Q I rx rv h
 obtain⟨l,xs,y,rfl,rfl,hH,hz,q⟩:=h
 cases rx
 obtain⟨u,rfl,ru⟩:=rv.one
 obtain⟨z,its,n,r,hl,e⟩:=I.lstM hH
 refine call_meets F.slot_list_append ⟨_,e,rfl⟩ F.entry_list_append (F.args_list_append_2 _ _) (PySem.list_append l its.toArray n u (by rw[List.size_toArray];omega)) ⟨e,?_⟩
 refine⟨.non,_,I.lset (its':=its++[u]) hH e (by simp) (r.append (.cons ru .nil)) ?_,rfl,q⟩
 rw[List.length_append,List.length_singleton]
 omega
noncomputable def rCat:R2:=fun x y H Q=>∃l b xs zs,x= .ref l/\y= .ref b/\H l=some (.lst xs)/\H b=some (.lst zs)/\xs.length+zs.length<=sizeLine/\∀p,H p=none->Q (.ref p) (upd H p (.lst (xs++zs)))
theorem op_cat:OpR X (binaryOp .Add) rCat:=by
 intro pins s σ H x y v u Q I rx ry h
 obtain⟨l,b,xs,zs,rfl,rfl,hH,hB,hz,q⟩:=h
 cases rx
 cases ry
 obtain⟨z,its,n,r,hl,e⟩:=I.lstM hH
 obtain⟨z2,its2,n2,r2,hl2,e2⟩:=I.lstM hB
 refine PySem.P.add_list e e2 ?_ (by rw[List.size_toArray,List.size_toArray];omega)
 have ea:its.toArray++its2.toArray=(its++its2).toArray:=by simp
 rw[ea]
 exact⟨.ref _,_,I.lnew (t':=s.toks) (r.append r2) (by rw[List.length_append];omega),rfl,q _ I.fresh⟩
noncomputable def rRep:R2:=fun x y H Q=>∃l k xs,x= .ref l/\y= .int k/\H l=some (.lst xs)/\ -(2^63)<=k/\k<2^63/\xs.length*k.toNat<=sizeLine/\
 ∀p,H p=none->Q (.ref p) (upd H p (.lst (List.replicate k.toNat xs).flatten))
theorem qKi {α:Type}(xs:List α)(k:Nat):(List.replicate k xs).flatten.length=k*xs.length:=by
 induction k with
 | zero=>simp
 | succ k ih=>rw[List.replicate_succ,List.flatten_cons,List.length_append,ih,Nat.succ_mul,Nat.add_comm]
theorem op_rep:OpR X (binaryOp .Mult) rRep:=by
 intro pins s σ H x y v u Q I rx ry h
 obtain⟨l,k,xs,rfl,rfl,hH,h1,h2,hz,q⟩:=h
 cases rx
 obtain⟨t,rfl⟩:=ry
 obtain⟨z,its,n,r,hl,e⟩:=I.lstM hH
 have hlen:its.toArray.size*k.toNat<=sizeLine:=by rw[List.size_toArray,<-hl];exact hz
 have hcap:¬ its.toArray.size*k.toNat>(2^63-1) / 8:=by
  have:(sizeLine:Nat)<=(2^63-1) / 8:=by decide
  omega
 have hfit:¬ (!Builtin.List.listFitsIndex k)=true:=by
  rw[fitsIndex_both h1 h2]
  exact Bool.false_ne_true
 have hlong:¬ Builtin.List.listTooLong (its.toArray.size*k.toNat)=true:=by
  rw[kZb hlen]
  exact Bool.false_ne_true
 have hnew:List.foldl (fun x1 x2=>x1++x2) #[] (List.replicate (if its.toArray.isEmpty=true then 0 else k.toNat) its.toArray)=(List.replicate k.toNat its).flatten.toArray:=by
  have f0:∀m:Nat,List.foldl (fun x1 x2=>x1++x2) #[] (List.replicate m its.toArray)=(List.replicate m its).flatten.toArray:=fun m=>by
   have:=kJg its m []
   rw[List.nil_append] at this
   exact this
  rw[f0]
  cases its with
  | nil=>simp
  | cons a r'=>rw[if_neg (by simp)]
 refine wpAny_binaryOp_repeat_ref (T:="list") (U:="int") (by decide) ⟨_,e,rfl⟩ (fun s'=>typeIs_int s' k t) noFill_list_mul F.fills_int_mul F.slot_int_rmul repeat_list F.slot_int_index.lookup
  (call_meets F.slot_int_rmul (typeIs_int s k t) F.entry_int_rmul (F.args_int_rmul_2 _ _) (int___rmul___int_list k t l its.toArray n)
   ⟨e,rfl,⟨_,e,rfl⟩,call_meets F.slot_list_mul ⟨_,e,rfl⟩ F.entry_list_mul (F.args_list_mul_2 _ _) (AutoListH.list___mul___list_int_3 l its.toArray n k t hfit hcap hlong) ⟨e,?_⟩⟩)
 rw[hnew]
 exact⟨.ref _,_,I.lnew (t':=s.toks) (r.rep k.toNat) (by rw[qKi,Nat.mul_comm];exact hz),rfl,q _ I.fresh⟩
variable {w:World}{E:Value->Shared->Prop}
section
variable {prog:Program}
end
variable {o:Option V}
section
variable {κ:Type}[DecidableEq κ]
def valV (kvs:List (κ×V))(k:κ):Option V:=(kvs.find? fun kv=>decide (kv.1=k)).map (·.2)
def putK (kvs:List (κ×V))(k:κ)(v:V):List (κ×V):=
 if (kvs.any fun kv=>decide (kv.1=k))=true then kvs.map (fun kv=>if kv.1=k then (kv.1,v) else kv) else kvs++[(k,v)]
theorem jVx {p:κ×V}{r:List (κ×V)}{k:κ}(e:p.1=k):valV (p::r) k=some p.2:=by simp[valV,List.find?_cons,e]
theorem jVy {p:κ×V}{r:List (κ×V)}{k:κ}(e:¬ p.1=k):valV (p::r) k=valV r k:=by simp[valV,List.find?_cons,e]
theorem kK3 (k:κ):∀kvs:List (κ×V),(kvs.any fun kv=>decide (kv.1=k))=(valV kvs k).isSome
 | []=>rfl
 | p::r=>by
  rw[List.any_cons]
  by_cases e:p.1=k
  ·simp only[jVx e,decide_eq_true e,Bool.true_or,Option.isSome_some]
  ·rw[jVy e,decide_eq_false e,Bool.false_or];exact kK3 k r
theorem jUm (kvs:List (κ×V))(k:κ)(v:V):(putK kvs k v).length<=kvs.length+1:=by
 unfold putK
 split
 ·rw[List.length_map];omega
 ·rw[List.length_append,List.length_cons,List.length_nil];omega
theorem RelO.isSome_eq {u:Option Value}(r:RelO o u):o.isSome=u.isSome:=by
 cases o with
 | none=>cases u with
  | none=>rfl
  | some _=>exact (show False from r).elim
 | some _=>cases u with
  | none=>exact (show False from r).elim
  | some _=>rfl
theorem KV.val {kvs:List (κ×V)}{vs:List (κ×Value)}(r:KV kvs vs)(k:κ):RelO (valV kvs k) (valueAt vs k):=by
 unfold KV at r
 induction r with
 | nil=>exact True.intro
 | @cons p q ps qs h t ih=>
  obtain⟨h1,h2⟩:=h
  by_cases e:p.1=k
  ·have e':q.1=k:=h1.symm.trans e
   have b:valueAt (q::qs) k=some q.2:=by simp[valueAt,List.find?_cons,e']
   rw[jVx e,b];exact h2
  ·have e':¬ q.1=k:=fun z=>e (h1.trans z)
   have b:valueAt (q::qs) k=valueAt qs k:=by simp[valueAt,List.find?_cons,e']
   rw[jVy e,b];exact ih
theorem KV.any {kvs:List (κ×V)}{vs:List (κ×Value)}(r:KV kvs vs)(k:κ):(kvs.any fun kv=>decide (kv.1=k))=vs.any fun kv=>decide (kv.1=k):=by
 unfold KV at r
 induction r with
 | nil=>rfl
 | cons h t ih=>rw[List.any_cons,List.any_cons,ih,h.1]
theorem KV.repl {kvs:List (κ×V)}{vs:List (κ×Value)}(r:KV kvs vs)(k:κ)(ry:RelV y u):
  KV (kvs.map fun kv=>if kv.1=k then (kv.1,y) else kv) (vs.map fun kv=>if kv.1=k then (kv.1,u) else kv):=by
 unfold KV at r ⊢
 induction r with
 | nil=>exact .nil
 | @cons p q ps qs h t ih=>
  rw[List.map_cons,List.map_cons]
  refine .cons ?_ ih
  obtain⟨h1,h2⟩:=h
  by_cases e:p.1=k
  ·rw[if_pos e,if_pos (h1.symm.trans e)];exact⟨h1,ry⟩
  ·rw[if_neg e,if_neg (fun z=>e (h1.trans z))];exact⟨h1,h2⟩
theorem KV.put {kvs:List (κ×V)}{vs:List (κ×Value)}(r:KV kvs vs)(k:κ)(ry:RelV y u):KV (putK kvs k y) (stored vs k u):=by
 unfold putK stored
 rw[r.any k]
 by_cases e:(vs.any fun kv=>decide (kv.1=k))=true
 ·rw[if_pos e,if_pos e];exact r.repl k ry
 ·rw[if_neg e,if_neg e];exact Paired.snoc r ⟨rfl,ry⟩
theorem KV.length {kvs:List (κ×V)}{vs:List (κ×Value)}(r:KV kvs vs):kvs.length=vs.length:=Paired.length r
end
variable {P:Program}
theorem jZc {k:Key}(r:RelV (kV k) u):(jJ7 P w).is k u=true:=by
 cases k with
 | inl i=>obtain⟨t,e⟩:=(show ∃t,u=Value.int i t from r);subst e;exact kKl P w i t
 | inr x=>obtain⟨t,e⟩:=(show ∃t,u=Value.str x t from r);subst e;exact kKk P w x t
abbrev KT (H:Hp):List (TKey×V)->List (TKey×Addr×Value)->Prop:=Paired fun p q=>p.1=q.1/\TKeyAt H p.1 q.2.1/\RelV p.2 q.2.2
variable {kvs:List (TKey×V)}
theorem KT.val {xs:List (TKey×Addr×Value)}(r:KT H kvs xs)(k:TKey):RelO (valV kvs k) ((atKey xs k).map (·.2)):=by
 induction r with
 | nil=>exact True.intro
 | @cons p q ps qs h t ih=>
  obtain⟨h1,_,h2⟩:=h
  by_cases e:p.1=k
  ·have e':q.1=k:=h1.symm.trans e
   have b:atKey (q::qs) k=some q.2:=by simp[atKey,List.find?_cons,e']
   rw[jVx e,b];exact h2
  ·have e':¬ q.1=k:=fun z=>e (h1.trans z)
   have b:atKey (q::qs) k=atKey qs k:=by simp[atKey,List.find?_cons,e']
   rw[jVy e,b];exact ih
theorem KT.repl {xs:List (TKey×Addr×Value)}(r:KT H kvs xs)(k:TKey)(ry:RelV y u):
  KT H (kvs.map fun kv=>if kv.1=k then (kv.1,y) else kv) (xs.map (putAt k u)):=by
 induction r with
 | nil=>exact .nil
 | @cons p q ps qs h t ih=>
  rw[List.map_cons,List.map_cons]
  refine .cons ?_ ih
  obtain⟨h1,h2,h3⟩:=h
  unfold putAt
  by_cases e:p.1=k
  ·rw[if_pos e,if_pos (h1.symm.trans e)];exact⟨h1,h2,ry⟩
  ·rw[if_neg e,if_neg (fun z=>e (h1.trans z))];exact⟨h1,h2,h3⟩
theorem KT.put {xs:List (TKey×Addr×Value)}(r:KT H kvs xs)(k:TKey)(hb:TKeyAt H k b)(ry:RelV y u):
  KT H (putK kvs k y) (storedH xs k b u):=by
 have e:(kvs.any fun kv=>decide (kv.1=k))=(atKey xs k).isSome:=by
  rw[kK3,(r.val k).isSome_eq,Option.isSome_map]
 unfold putK storedH
 rw[e]
 by_cases q:(atKey xs k).isSome=true
 ·rw[if_pos q,if_pos q];exact r.repl k ry
 ·rw[if_neg q,if_neg q];exact Paired.snoc r ⟨rfl,hb,ry⟩
variable {H':Hp}
theorem KT.keeps {xs:List (TKey×Addr×Value)}(r:KT H kvs xs)(ht:∀b ys,H b=some (.tup ys)->H' b=some (.tup ys)):KT H' kvs xs:=
 Paired.mapP r fun _ _ z=>⟨z.1,z.2.1.mono ht,z.2.2⟩
variable {a:Addr}
section
variable {h:Heap}
theorem rd_of {u:HO}(ok:HOk P w H h)(e:Rd H a u):ObjOk P w H h a u:=e.ok ok
theorem kXs {kvs:List (Key×V)}(ok:HOk P w H h)(e:Rd H a (.dK kvs)):kvs.length<=sizeLine/\(a == sysModules)=false/\∃vs,KV kvs vs/\h.DictOf (jJ7 P w) a vs:=
 show ObjOk P w H h a (.dK kvs) from rd_of ok e
theorem kZw {kvs:List (Key×V)}(ok:HOk P w H h)(e:H a=some (.dK kvs)):kvs.length<=sizeLine/\(a == sysModules)=false/\∃vs,KV kvs vs/\h.DictOf (jJ7 P w) a vs:=kXs ok (.inl e)
theorem kQk {K:Type} [DecidableEq K] {c:Nat} {T:KeyV P w K c} {R:K->V->Prop} (hR:∀k x u,R k x->RelV x u->T.is h k u):∀ {ks:List K} {xs:List V} {us:List Value},Paired R ks xs->Vals xs us->ItemsV T h ks us
 | _,_,_,.nil,.nil=> .nil
 | _,_,_,.cons r t,.cons q z=> .cons (hR _ _ _ r q) (kQk hR t z)
theorem kJx {K:Type}[DecidableEq K]{c:Nat}{T:KeyV P w K c}{R:K->V->Prop}{ks:List K}(ok:HOk P w H h)(hR:∀k x u,R k x->RelV x u->T.is h k u)(e:H p=some (.tup xs))(r:Paired R ks xs):kYd T h ks (.ref p):=by
 obtain⟨_,its,q,o,h1,h2,n,h3,_⟩:=(show ObjOk P w H h p (.tup xs) from ok p _ e)
 exact⟨p,o,its.toArray,n,rfl,h1,h2,h3,by simpa using kQk hR r q⟩
theorem r1_of (ok:HOk P w H h)(k:K1)(x:V)(u:Value)(r:Rk1 H k x)(q:RelV x u):(vk1 P w).is h k u:=by
 cases k with
 | inl k=>cases (show x=kV k from r);exact jZc (P:=P) (w:=w) q
 | inr ks=>
  obtain⟨p,vs,rfl,e,t⟩:=(show ∃p vs,x= .ref p/\H p=some (.tup vs)/\Paired (fun k v=>v=kV k) ks vs from r)
  cases (show u=Value.ref p from q)
  exact kJx (T:=kQu P w) ok (fun k x u r q=>by subst r;exact jZc (P:=P) (w:=w) q) e t
theorem r2_of (ok:HOk P w H h)(k:K2)(x:V)(u:Value)(r:Rk2 H k x)(q:RelV x u):(vk2 P w).is h k u:=by
 cases k with
 | inl k=>cases (show x=kV k from r);exact jZc (P:=P) (w:=w) q
 | inr ks=>
  obtain⟨p,vs,rfl,e,t⟩:=(show ∃p vs,x= .ref p/\H p=some (.tup vs)/\Paired (Rk1 H) ks vs from r)
  cases (show u=Value.ref p from q)
  exact kJx (T:=vk1 P w) ok (r1_of ok) e t
theorem jXw {ks:TKey}(ok:HOk P w H h)(e:TKeyAt H ks a):(jJ2 P w).is h ks a:=by
 obtain⟨vs,h1,t⟩:=e
 exact kJx (T:=vk2 P w) ok (r2_of ok) h1 t
theorem kKs (ok:HOk P w H h)(e:Rd H a (.dT kvs)):kvs.length<=sizeLine/\(a == sysModules)=false/\
  ∃xs,KT H kvs xs/\h.DictOfH (jJ2 P w) a xs:=by
 obtain⟨z,y,xs,r,o,es,ep,h1,h2,h3,h4,h5⟩:=(show ObjOk P w H h a (.dT kvs) from rd_of ok e)
 refine⟨z,y,xs,r,o,es,ep,h1,h2,h3,h4,fun x hx=> ?_,h5⟩
 have all:∀ {l:List (TKey×V)} {m:List (TKey×Addr×Value)},KT H l m->∀x∈m,(jJ2 P w).is h x.1 x.2.1:=by
  intro l m q
  induction q with
  | nil=>intro x hx;exact nomatch hx
  | @cons p q ps qs hq t ih=>
   intro x hx
   rcases (List.mem_cons.mp hx) with e | hx
   ·subst e
    exact jXw ok (by rw[<-hq.1];exact hq.2.1)
   ·exact ih x hx
 exact all r x hx
theorem dt_of (ok:HOk P w H h)(e:H a=some (.dT kvs)):kvs.length<=sizeLine/\(a == sysModules)=false/\
  ∃xs,KT H kvs xs/\h.DictOfH (jJ2 P w) a xs:=kKs ok (.inl e)
end
def DGet (H:Hp)(a:Addr)(y:V)(r:Option V):Prop:=
 (∃kvs k,Rd H a (.dK kvs)/\y=kV k/\r=valV kvs k)\/∃kvs k b,Rd H a (.dT kvs)/\y= .ref b/\TKeyAt H k b/\r=valV kvs k
noncomputable def DPut (H:Hp)(a:Addr)(y v:V)(H':Hp):Prop:=
 (∃kvs k,H a=some (.dK kvs)/\y=kV k/\kvs.length<sizeLine/\H'=upd H a (.dK (putK kvs k v)))\/
 ∃kvs k b,H a=some (.dT kvs)/\y= .ref b/\TKeyAt H k b/\kvs.length<sizeLine/\H'=upd H a (.dT (putK kvs k v))
theorem DGet.k {kvs:List (Key×V)}{k:Key}(e:H a=some (.dK kvs)):DGet H a (kV k) (valV kvs k):= .inl ⟨kvs,k,.inl e,rfl,rfl⟩
theorem DGet.t {k:TKey}(e:H a=some (.dT kvs))(eb:TKeyAt H k b):DGet H a (.ref b) (valV kvs k):= .inr ⟨kvs,k,b,.inl e,rfl,eb,rfl⟩
variable {v:V}
theorem DPut.k {kvs:List (Key×V)}{k:Key}(e:H a=some (.dK kvs))(hl:kvs.length<sizeLine):DPut H a (kV k) v (upd H a (.dK (putK kvs k v))):= .inl ⟨kvs,k,e,rfl,hl,rfl⟩
theorem DPut.t {k:TKey}(e:H a=some (.dT kvs))(eb:TKeyAt H k b)(hl:kvs.length<sizeLine):
  DPut H a (.ref b) v (upd H a (.dT (putK kvs k v))):= .inr ⟨kvs,k,b,e,rfl,eb,hl,rfl⟩
variable {r:Value}{Q:Value->Shared->Prop}{h':Heap}
theorem Inv.big (I:Inv X pins σ H s):sysModules<s.heap.objs.size:=by
 have h:mainGlobals<s.heap.objs.size:=(I.mod.glob.keeps I.bk).lt
 exact Nat.lt_trans (by decide) h
theorem kXu (hu:A.units+20<cLine)(I:Inv X pins σ H s)(g:DGet H a y (some v))(ry:RelV y u)(h:∀w' s',Inv X pins σ H s'->RelV v w'->Q w' s'):
  wpAny (model X.prog X.w) A (getItem (.ref a) u) Q E s:=by
 rcases g with ⟨kvs,k,e,ey,l⟩ | ⟨kvs,k,b,e,ey,eb,l⟩
 ·subst ey
  obtain⟨z,hd,vs,rel,dd⟩:=kXs I.hok e
  obtain⟨w',hw,rw'⟩:=RelO.some_of (v:=v) (o:=valueAt vs k) (by rw[l];exact rel.val k)
  exact wpAny_getItem_of (jZc ry) dd.mapOf hw (h w' _ (I.tok _) rw')
 ·subst ey
  cases (show u=Value.ref b from ry)
  obtain⟨z,hd,xs,rel,dd⟩:=kKs I.hok e
  obtain⟨w',hw,rw'⟩:=RelO.some_of (v:=v) (o:=(atKey xs k).map (·.2)) (by rw[l];exact rel.val k)
  obtain⟨p,hp,hp2⟩:=Option.map_eq_some_iff.mp hw
  refine wpAny_getItem_heap (jJv hu) (jXw I.hok eb) dd hp ?_
  rw[hp2]
  exact h w' _ (I.tok _) rw'
theorem d_in (hu:A.units+20<cLine)(I:Inv X pins σ H s)(g:DGet H a y o)(ry:RelV y u)(h:∀s',Inv X pins σ H s'->Q (.bool o.isSome) s'):
  wpAny (model X.prog X.w) A (compareOp .In u (.ref a)) Q E s:=by
 rcases g with ⟨kvs,k,e,ey,l⟩ | ⟨kvs,k,b,e,ey,eb,l⟩
 ·subst ey
  obtain⟨z,hd,vs,rel,dd⟩:=kXs I.hok e
  refine wpAny_in_of (jZc ry) hd dd.mapOf ?_
  rw[<-(rel.val k).isSome_eq,<-l]
  exact h _ (I.tok _)
 ·subst ey
  cases (show u=Value.ref b from ry)
  obtain⟨z,hd,xs,rel,dd⟩:=kKs I.hok e
  refine wpAny_in_heap (jJv hu) (jXw I.hok eb) hd dd ?_
  have q:=(rel.val k).isSome_eq
  rw[Option.isSome_map] at q
  rw[<-q,<-l]
  exact h _ (I.tok _)
theorem qK7 (hu:A.units+20<cLine)(I:Inv X pins σ H s)(g:DGet H a y o)(ry:RelV y u)(h:∀s',Inv X pins σ H s'->Q (.bool (!o.isSome)) s'):
  wpAny (model X.prog X.w) A (compareOp .NotIn u (.ref a)) Q E s:=by
 rcases g with ⟨kvs,k,e,ey,l⟩ | ⟨kvs,k,b,e,ey,eb,l⟩
 ·subst ey
  obtain⟨z,hd,vs,rel,dd⟩:=kXs I.hok e
  refine wpAny_notIn_of (jZc ry) hd dd.mapOf ?_
  rw[<-(rel.val k).isSome_eq,<-l]
  exact h _ (I.tok _)
 ·subst ey
  cases (show u=Value.ref b from ry)
  obtain⟨z,hd,xs,rel,dd⟩:=kKs I.hok e
  refine wpAny_notIn_heap (jJv hu) (jXw I.hok eb) hd dd ?_
  have q:=(rel.val k).isSome_eq
  rw[Option.isSome_map] at q
  rw[<-q,<-l]
  exact h _ (I.tok _)
theorem jZj {t':Nat}{ob:HO}(I:Inv X pins σ H s)(mu:Mut (H a))(hs:Heap.SameBut a s.heap h')(he:∃q,h'.get? a=some q)(new:ObjOk X.prog X.w (upd H a ob) h' a ob):
  Inv X pins σ (upd H a ob) {s with heap:=h',toks:=t'}:=
 I.write (x:=a) (e:=a) mu (.inl rfl) (fun b q hb z=>(hs.2 b hb).trans z) he new
theorem kXt {kvs:List (Key×V)}{vs:List (Key×Value)}(z:kvs.length<=sizeLine)(hd:(a == sysModules)=false)(rel:KV kvs vs)(dd:h'.DictOf (jJ7 P w) a vs):
  ObjOk P w H' h' a (.dK kvs):=⟨z,hd,vs,rel,dd⟩
theorem kJn {Q:Unit->Shared->Prop}(hu:A.units+20<cLine)(I:Inv X pins σ H s)(g:DPut H a y v H')(ry:RelV y u)(rv:RelV v r)(h:∀s',Inv X pins σ H' s'->Q () s'):
  wpAny (model X.prog X.w) A (setItem (.ref a) u r) Q E s:=by
 rcases g with ⟨kvs,k,e,ey,l,eH⟩ | ⟨kvs,k,b,e,ey,eb,l,eH⟩
 ·subst ey eH
  obtain⟨z,hd,vs,rel,dd⟩:=kZw I.hok e
  have hz:vs.length<=sizeLine:=by rw[<-rel.length];exact z
  have hl:(putK kvs k v).length<=sizeLine:=by have:=jUm kvs k v;omega
  refine wpAny_setItem_pairs (hsz:=hz) (jZc ry) dd fun h' dd' hs=>h _ ?_
  have he:∃q,h'.get? a=some q:=let ⟨q,_,_,hq,_⟩:=dd';⟨q,hq⟩
  exact jZj I (by rw[e];exact True.intro) hs he (kXt hl hd (rel.put k rv) dd')
 ·subst ey eH
  cases (show u=Value.ref b from ry)
  obtain⟨z,hd,xs,rel,dd⟩:=dt_of I.hok e
  have hz:xs.length<=sizeLine:=by rw[<-Paired.length rel];exact z
  have hl:(putK kvs k v).length<=sizeLine:=by have:=jUm kvs k v;omega
  refine wpAny_setItem_heap (hsz:=hz) (jJv hu) (jXw I.hok eb) dd fun h' dd' hs=>h _ ?_
  obtain⟨q,es,ep,hq,h2,h3,h4,_,h5⟩:=dd'
  refine jZj I (by rw[e];exact True.intro) hs ⟨q,hq⟩ ⟨hl,hd,_,(rel.put k eb rv).keeps fun c ys ec=> ?_,q,es,ep,hq,h2,h3,h4,h5⟩
  rw[jJk (ne_of ec e (fun z=>nomatch z))]
  exact ec
section
variable {kvs:List (Key×V)}{k:Key}
end
theorem kKv (I:Inv X pins σ H s)(g:DGet H a y o):s.TypeIs (.ref a) "dict":=by
 rcases g with ⟨kvs,k,e,_,_⟩ | ⟨kvs,k,b,e,_,_,_⟩
 ·obtain⟨_,_,vs,_,dd⟩:=kXs I.hok e
  exact dd.typeIs
 ·obtain⟨_,_,xs,_,dd⟩:=kKs I.hok e
  exact dd.typeIs
section
variable {o i value:Expr}{pos' tpos:Pos}{td ty tv:TE}
end
theorem jZi (h:Heap)(hb:sysModules<h.objs.size):ObjOk P w H (h.push {cls:= .type "dict",data:= .dict #[]}) h.objs.size (.dK []):=
 ⟨Nat.zero_le _,beq_eq_false_iff_ne.mpr (Ne.symm (Nat.ne_of_lt hb)),[],.nil,Heap.DictOf.new h⟩
theorem kZv (h:Heap)(hb:sysModules<h.objs.size):ObjOk P w H (h.push {cls:= .type "dict",data:= .dict #[]}) h.objs.size (.dT []):=
 ⟨Nat.zero_le _,beq_eq_false_iff_ne.mpr (Ne.symm (Nat.ne_of_lt hb)),[],.nil,_,#[],0,Heap.get?_push_size _ rfl,⟨rfl,rfl,rfl⟩,rfl,rfl,List.nodup_nil⟩
def tDNewK:TE:=fun _ H Q=>∀p,H p=none->Q (.ref p) (upd H p (.dK []))
def tDNewT:TE:=fun _ H Q=>∀p,H p=none->Q (.ref p) (upd H p (.dT []))
theorem kY4:PE X (.Dict [] [] pos) tDNewK:=fun pins s σ H Q I h=>
 wpAny_Dict_empty ⟨.ref s.heap.objs.size,_,I.laid (a:=s.heap.objs.size) (o:= .dK []) (t':=s.toks) (fun _ _ q=>Heap.get?_push_of_some _ q) (Nat.le_refl _) (jZi s.heap I.big),rfl,h _ (I.hok.fresh (Nat.le_refl _))⟩
theorem kY3:PE X (.Dict [] [] pos) tDNewT:=fun pins s σ H Q I h=>
 wpAny_Dict_empty ⟨.ref s.heap.objs.size,_,I.laid (a:=s.heap.objs.size) (o:= .dT []) (t':=s.toks) (fun _ _ q=>Heap.get?_push_of_some _ q) (Nat.le_refl _) (kZv s.heap I.big),rfl,h _ (I.hok.fresh (Nat.le_refl _))⟩
abbrev VV:List (V×V)->List (Value×Value)->Prop:=Paired fun p q=>RelV p.1 q.1/\RelV p.2 q.2
def jYm (kvs more:List (Key×V)):List (Key×V):=more.foldl (fun acc kv=>putK acc kv.1 kv.2) kvs
theorem KV.merge:∀ {more:List (Key×V)} {rs:List (Key×Value)} {kvs:List (Key×V)} {vs:List (Key×Value)},KV more rs->KV kvs vs->KV (jYm kvs more) (merged vs rs):=by
 intro more rs kvs vs r
 unfold KV at r
 induction r generalizing kvs vs with
 | nil=>intro q;exact q
 | @cons p q ps qs h t ih=>
  intro r0
  have e:KV (putK kvs p.1 p.2) (stored vs q.1 q.2):=by
   have:=r0.put p.1 h.2
   rw[<-h.1];exact this
  exact ih e
theorem jU5:∀(more kvs:List (Key×V)),(jYm kvs more).length<=kvs.length+more.length
 | [],kvs=>by show kvs.length<=kvs.length+0;omega
 | p::r,kvs=>by
  have h1:=jU5 r (putK kvs p.1 p.2)
  have h2:=jUm kvs p.1 p.2
  show (jYm (putK kvs p.1 p.2) r).length<=_
  rw[List.length_cons];omega
theorem jVn {P:Program} {w:World}:∀ {kvs:List (Key×V)} {ws:List (Value×Value)},VV (kvs.map fun kv=>(kV kv.1,kv.2)) ws->∃rs,Carries (jJ7 P w) ws rs/\KV kvs rs
 | [],_,r=>by rw[List.map_nil] at r;cases r;exact⟨[],True.intro,.nil⟩
 | p::kvs,_,r=>by
  rw[List.map_cons] at r
  cases r with
  | @cons a b as bs h t=>
   obtain⟨rs,c,q⟩:=jVn (P:=P) (w:=w) t
   obtain⟨b1,b2⟩:=b
   exact⟨(p.1,b2)::rs,⟨jZc h.1,rfl,c⟩,.cons ⟨rfl,h.2⟩ q⟩
section
variable {d:V}
end
section
variable {o f:Expr}{td ty tx:TE}
end
section
variable {kvs:List (Key×V)}
end
end L2
namespace Att
open PySem PySem.W PySem.Calls PyProof.Rows
variable {P:Params}{h:Heap}
theorem jXy:∀(ns:List Int) (vs:List Value),WellAll P h vs (ns.map WData.int)->IntsAre vs ns:=by
 intro ns
 induction ns with
 | nil=>
  intro vs w
  rw[List.map_nil] at w
  cases w
  exact .nil
 | cons n ns ih=>
  intro vs w
  rw[List.map_cons] at w
  cases w with
  | cons a b=>
   cases a
   exact .cons _ _ (ih _ b)
variable {l:OpenLaw}{n:Nat}
theorem kU9 (hn:l.most=some n){args:List WData}{vals:List Value}(hpre:l.row.toRowW.claim.pre args=true)(hwl:WellAll P h vals args):
  ∃a vs ns,vals=[Value.ref a]/\args=[WData.list (ns.map WData.int)]/\h.get? a=some {cls:= .type "list",data:= .seq vs.toArray}/\IntsAre vs ns/\ns.length<=n:=by
 have hsh:WShape.hasAll [] args [.list .int]=true:=(pre_splitW hpre).1
 have hc:l.pre.holds [] {args:=args}=true:=(pre_splitW hpre).2
 obtain⟨d,r,rfl,h1,h2⟩:=hasAllW_cons hsh
 obtain rfl:=hasAllW_nil h2
 obtain⟨xs,rfl,h3⟩:=hasW_list h1
 obtain⟨ns,rfl⟩:=items_int h3
 have hlen:ns.length<=n:=by
  unfold OpenLaw.pre at hc
  have h4:(WTm.not (.lt (.lit (.int (n:Int))) (.len (.arg 0)))).holds [] {args:=[.list (ns.map .int)]}=true:=by
   have h4:=(holds_andW hc).1
   rw[hn] at h4
   exact h4
  have h5:=condW_of h4 (w_not (w_lt w_lit (w_len_list (w_arg rfl))))
  rw[List.length_map] at h5
  refine Nat.le_of_not_lt fun q=> ?_
  have q':(n:Int)<((ns.length:Nat):Int):=by omega
  first
   | (rw[decide_eq_true q'] at h5;exact absurd h5 (by decide))
   | (simp at h5;omega)
 cases hwl with
 | cons w1 w2=>
  cases w2
  cases w1 with
  | list ho hall=>exact⟨_,_,ns,rfl,rfl,ho,jXy ns _ hall,hlen⟩
theorem kVi (l:OpenLaw)(args:List WData):l.row.toRowW.claim.post args (.bool true) args=true:=
 postW_of (r:=l.row.toRowW) (X:=(true == true))
  (show WShape.has [] (.bool true) .bool=true by first | rfl | decide | simp[WShape.has,WShape.arms,WShape.armsAll])
  (show (WTm.eq .res (.lit (.bool true))).value [] {args:=args,res:=some (.bool true),after:=args}=some (.bool (true == true)) from w_eq_bool (w_res rfl) w_lit) rfl
theorem attach_call {q:Program}{loose:List Str}{XP:(Str->Option Value)->Heap->Prop}{YP:World->Heap->Prop}{d:DefRec}(hn:l.most=some n)(hdf:d.params.defaults=[])(call:∀(w:World) (s₀ s₁:Shared) (mg mb:Str->Option Value) (fa:Addr) (o:Obj) (pm cd doc:Value) (a:Addr) (vs:List Value) (ns:List Int),
   Ground q loose [] XP w s₀ mg mb s₁.heap->YP w s₁.heap->
   s₁.heap.get? fa=some o->o.data= .func (docDef d.name d.params d.body d.scope pm cd doc)->s₁.heap.CodeRec cd d.name->mg d.name=some (.ref fa)->
   s₁.heap.get? a=some {cls:= .type "list",data:= .seq vs.toArray}->IntsAre vs ns->ns.length<=n->s₁.gens= #[]->
   codeAny (model l.prog w) callerA (.call (.ref fa) ⟨[.ref a],[]⟩) (fun r s'=>r= .ok (.ret (.bool true))/\OldK s₁.heap s'.heap/\s'.os=s₁.os/\AllBare s'.gens) s₁):
  WalkO q loose XP YP l.row.toRowW d [] (fun f vs=>PySem.call f vs):=by
 intro w s₀ s₁ mg mb G Y fa o pm cd doc dV kV ho hd hcd hD hmg hg args vals as hpre hlay hrd hwl hlo
 obtain rfl:dV= .none:=Dflts.none hD hdf
 obtain rfl:kV= .none:=Dflts.noKw hD
 obtain⟨a,vs,ns,rfl,rfl,hobj,hints,hlen⟩:=kU9 hn hpre hwl
 refine enter_call (codeAny_mono (call w s₀ s₁ mg mb fa o pm cd doc a vs ns G Y ho (fd_plain hd) hcd hmg hobj hints hlen hg) fun r s' hq=> ?_)
 obtain⟨rfl,h2,h3,h4⟩:=hq
 exact⟨.inl ⟨.bool true,.bool true,[],rfl,fun _=>rfl,.bool true,kVi l _,fun _=>⟨List.Pairwise.nil,fun _ hm=>(nomatch hm)⟩⟩,h2,h3,h4⟩
section
variable {prog:Program}{w:World}{A:Around}{E:Value->Shared->Prop}{s:Shared}{K:Frag}
end
end Att
namespace L2
open PySem PySem.Spec PyProof.Rows
theorem jZr:∀ {vs:List Value} {ns:List Int},IntsAre vs ns->Vals (ns.map V.int) vs
 | _,_,.nil=> .nil
 | _,_,.cons n t h=> .cons ⟨t,rfl⟩ (jZr h)
def Only (H:Hp):Prop:=∀b,H b=none\/∃o xs,H b=some (.frz o (.lst xs))
variable {P:Program}{w:World}{K:PySem.W.Frag}{mg:Str->Option Value}{fd:FuncData}{x:Str}{sp:Sp}
theorem kZl {mb:Str->Option Value}{CX:CXT}{k:Nat}{fa a:Addr}{s₁:Shared}{vs:List Value}{ns:List Int}(KX:K.In s₁.heap)(hns:s₁.heap.Ns mainGlobals mg)(hb:s₁.heap.Ns builtinsNs mb)(hbb:∀x:Str,x≠"__name__"->mb x=bootBuiltins x)(hlim:s₁.heap.NoLimit)(hg:s₁.gens= #[])(ha:s₁.heap.get? a=some {cls:= .type "list",data:= .seq vs.toArray})(hi:IntsAre vs ns)(hl:ns.length<=sizeLine)(hr:Room k callerA)(F:∀base:Heap,K.In base->base.Ns mainGlobals mg->FnOk P w K mg base CX k fa fd [x] sp)(hbind:∀(s:Shared) (u:Value),BindsTo s fd ⟨[u],[]⟩ [(x,u)])(hsp:∀H:Hp,Only H->SqL K H a (ns.map V.int)->sp [.ref a] H (fun v _=>v= .bl true) fun _ _ _=>False)(hCX:∀H e s',CX [] H s₁ (fun _ _ _=>False) e s'->False):
  codeAny (model P w) callerA (.call (.ref fa) ⟨[.ref a],[]⟩) (fun r s'=>r= .ok (.ret (.bool true))/\OldK s₁.heap s'.heap/\s'.os=s₁.os/\AllBare s'.gens) s₁:=by
 have rv:=jZr hi
 have lenV:=hi.length
 have core:∀H:Hp,Only H->SqL K H a (ns.map V.int)->HOk P w H s₁.heap->(∀b,H b≠none->b=a)->(H a≠none->K.lookup a=none)->
   codeAny (model P w) callerA (.call (.ref fa) ⟨[.ref a],[]⟩) (fun r s'=>r= .ok (.ret (.bool true))/\OldK s₁.heap s'.heap/\s'.os=s₁.os/\AllBare s'.gens) s₁:=by
  intro H hO hS hok hA hK
  have base_of:∀ {b:Addr} {o:Obj},s₁.heap.get? b=some o->H b=none->(hidT s₁.heap H).get? b=some o:=fun e n=>kZp e n
  have noA:∀ {b:Addr} {o:Obj} {es:Array DictEntry} {ep:Nat},s₁.heap.get? b=some o->o.data= .dict es ep->H b=none:=fun {b o es ep} e d=>by
   cases q:H b with
   | none=>rfl
   | some u=>
    have e':b=a:=hA b (by rw[q];simp)
    subst e'
    rw[ha] at e;cases e
    have d':Data.seq vs.toArray _=Data.dict es ep:=d
    cases d'
  have nsK:∀ {b:Addr} {m:Str->Option Value},s₁.heap.Ns b m->(hidT s₁.heap H).Ns b m:=fun {b m} ⟨o,es,ep,e,d,r⟩=>⟨o,es,ep,base_of e (noA e d),d,r⟩
  have hKb:K.In (hidT s₁.heap H):=fun b o e=>base_of (KX b o e) (by
   cases q:H b with
   | none=>rfl
   | some u=>
    have e':b=a:=hA b (by rw[q];simp)
    subst e'
    rw[hK (by rw[q];simp)] at e;cases e)
  have hM:Mod K mg (hidT s₁.heap H):=⟨hKb,nsK hns,⟨mb,nsK hb,hbb⟩,let ⟨mc,h1,h2⟩:=hlim;⟨mc,nsK h1,h2⟩⟩
  have e0:Env0 P w K mg (hidT s₁.heap H) callerA [] s₁ H:=⟨rfl,hM,fun b o e=>qKc e,Nat.le_of_eq (kXa _ _),trivial,fun b hb=>absurd (show b∈([]:List Addr) from hb) (by simp),hok,.of_eq hg⟩
  refine codeAny_mono ((F _ hKb (nsK hns)).run callerA [] s₁ H ⟨[.ref a],[]⟩ [.ref a] [.ref a] _ _ hr e0 (hbind s₁ (.ref a)) (.cons rfl .nil) (hsp H hO hS)) fun r s' h=> ?_
  cases r with
  | error e=>exact (hCX H e s' h).elim
  | ok fl=>
   cases fl with
   | next=>exact False.elim h
   | brk=>exact False.elim h
   | cont=>exact False.elim h
   | ret u=>
    obtain⟨v,H',os,bare,un,hok',r',q⟩:=h
    have q':v= .bl true:=q
    subst q'
    obtain rfl:u=Value.bool true:=r'
    refine⟨rfl,OldK.of_keep fun b o e=> ?_,os,bare⟩
    cases q:H b with
    | none=>exact un.keep b o e q (by intro z;exact absurd (show b∈([]:List Addr) from z) (by simp)) (by simp)
    | some u=>
     rcases hO b with z | ⟨ob,xs,z⟩
     ·rw[q] at z;cases z
     ·have z2:=un.frzs b ob _ z
      obtain⟨e1,_⟩:=hok b _ z
      obtain⟨e2,_⟩:=hok' b _ z2
      rw[e] at e1;cases e1
      exact e2
 cases hk:K.lookup a with
 | some o=>
  have e:=KX a o hk
  rw[ha] at e
  cases e
  refine core (fun _=>none) (fun _=> .inl rfl) (.inr ⟨_,vs.toArray,_,hk,rfl,rfl,rfl,by rw[List.size_toArray,lenV];exact hl,by simpa using rv⟩) (fun b u z=>by have z':(none:Option HO)=some u:=z;cases z') (fun b z=>absurd rfl z) fun z=>absurd rfl z
 | none=>
  refine core (fun b=>if b=a then some (.frz {cls:= .type "list",data:= .seq vs.toArray} (.lst (ns.map V.int))) else none) (fun b=> ?_) (.inl (.inr ⟨{cls:= .type "list",data:= .seq vs.toArray},if_pos rfl⟩)) (fun b u z=> ?_) (fun b z=> ?_) fun _=>hk
  ·by_cases hb:b=a
   ·exact .inr ⟨_,_,if_pos hb⟩
   ·exact .inl (if_neg hb)
  ·by_cases hb:b=a
   ·have z':=(if_pos hb).symm.trans z
    cases z'
    subst hb
    exact⟨ha,by rw[List.length_map];exact hl,vs,_,rv,ha⟩
   ·have z':=(if_neg hb).symm.trans z
    cases z'
  ·by_cases hb:b=a
   ·exact hb
   ·exact absurd (if_neg hb) z
theorem walk_of {l:PySem.W.OpenLaw}{n k:Nat}{q:Program}{loose:List Str}{XP:(Str->Option Value)->Heap->Prop}{YP:World->Heap->Prop}{d:DefRec}{K:Params->PySem.W.Frag}{CX:World->CXT}{sp:World->Sp}(hn:l.most=some n)(hn2:n<=sizeLine)(hdf:d.params.defaults=[])(hr:Room k callerA)(hY:∀(w:World) (h:Heap),YP w h->(K w.params).In h)(F:∀(w:World) (mg:Str->Option Value) (fa:Addr) (h:Heap),(K w.params).In h->h.Ns mainGlobals mg->mg d.name=some (.ref fa)->
   ∃fd:FuncData,(∀(s:Shared) (u:Value),BindsTo s fd ⟨[u],[]⟩ [(x,u)])/\
    ∀base:Heap,(K w.params).In base->base.Ns mainGlobals mg->FnOk l.prog w (K w.params) mg base (CX w) k fa fd [x] (sp w))(hsp:∀(w:World) (H:Hp) (a:Addr) (ns:List Int),ns.length<=n->Only H->SqL (K w.params) H a (ns.map V.int)->sp w [.ref a] H (fun v _=>v= .bl true) fun _ _ _=>False)(hCX:∀(w:World) (H:Hp) (s:Shared) (e:Value) (s':Shared),CX w [] H s (fun _ _ _=>False) e s'->False):
  PySem.W.WalkO q loose XP YP l.row.toRowW d [] (fun f vs=>PySem.call f vs):=by
 refine Att.attach_call hn hdf fun w s₀ s₁ mg mb fa o pm cd doc a vs ns G Y ho hd hcd hmg hobj hints hlen hg=> ?_
 have KX:=hY w _ Y
 obtain⟨fd,hb,hF⟩:=F w mg fa _ KX G.T.g hmg
 exact kZl KX G.T.g G.T.b G.T.builtins G.T.nolimit hg hobj hints (Nat.le_trans hlen hn2) hr hF hb (fun H hO hS=>hsp w H a ns hlen hO hS) fun H e s'=>hCX w H s₁ e s'
def inClass (s:Stmt)(j:Nat):Stmt:=match s with
 | .ClassDef _ _ _ body _ _ _ _ _ _ _=>body.getD j (.Pass ⟨0,0,0,0⟩)
 | _=> .Pass ⟨0,0,0,0⟩
noncomputable def jKp (s:Stmt):Arguments:=match s with
 | .FunctionDef _ a _ _ _ _ _ _ _ _=>a
 | _=>{posonlyargs:=[],args:=[],vararg:=none,kwonlyargs:=[],kw_defaults:=[],kwarg:=none,defaults:=[]}
def jJx (s:Stmt):List Stmt:=match s with
 | .FunctionDef _ _ b _ _ _ _ _ _ _=>b
 | _=>[]
def jJd (s:Stmt):Scope:=match s with
 | .FunctionDef _ _ _ _ _ _ sc _ _ _=>sc
 | _=>{kind:= .function,names:=[],isGenerator:=false,isCoroutine:=false}
abbrev CX0:CXT:=fun _ _ _ _ _ _=>False
abbrev E0:XK:=fun _ _ _=>False
variable {X:Cx}
theorem kY5:kYa CX0 X E0:=fun _ _ _ _ _ _ _ h=>h.elim
structure Fun (K:PySem.W.Frag) (x qual:Str) (st:Stmt) (f:Addr) (fd:FuncData):Prop where
 ex:∃(oc:Value) (od:Option Addr) (kV doc pm:Value) (an:Option Addr) (cdv ct:Value) (osl:Array (Option Value)),
  fd=PySem.W.fnOf x qual (jKp st) (jJx st) (jJd st) .none kV doc pm an cdv ct/\K.lookup f=some ⟨oc,od,.func fd,osl⟩/\PySem.W.codeIn K cdv qual=true
 kp:PySem.W.keepIn K (.ref f)=true
variable {qual:Str}{st:Stmt}{f:Addr}{ps:List Str}
section
variable {base:Heap}
theorem Fun.ok {N:List Str}{k:Nat}(F:Fun K x qual st f fd)(S:FnScope N ps (jJd st))(len:∀vs H Q E,sp vs H Q E->vs.length=ps.length)(hbody:∀(cdv:Value) (A:Around) (outer:List Env) (s:Shared) (H:Hp) (vs:List V) (Q:VK) (E:XK),Room k (A.deeper (envOfC qual (jJd st) s.heap.objs.size f cdv))->sp vs H Q E->
   ∃t,PSs (cxOf CX0 P w K mg base N qual (jJd st) f cdv A outer s H E).nox (jJx st) t/\t {nx:=fun _ H'=>Q .non H',rt:=Q} (start N vs) H):FnOk P w K mg base CX0 (k+1) f fd ps sp:=by
 obtain⟨oc,od,kV,doc,pm,an,cdv,ct,osl,rfl,lk,hcd⟩:=F.ex
 refine fn_of lk hcd S len fun A outer s H vs Q E hr hsp=> ?_
 obtain⟨t,h,q⟩:=hbody cdv A outer s H vs Q E hr hsp
 exact⟨t,h.nox,q⟩
theorem Fun.binds (F:Fun K x qual st f fd)(h:∀(kV doc pm:Value) (an:Option Addr) (cdv ct:Value) (us:List Value),us.length=ps.length->bindArgs (PySem.W.fnOf x qual (jKp st) (jJx st) (jJd st) .none kV doc pm an cdv ct) ⟨us,[]⟩=pure (ps.zip us)):Binds K fd ps []:=by
 obtain⟨oc,od,kV,doc,pm,an,cdv,ct,osl,rfl,lk,hcd⟩:=F.ex
 exact .all (h kV doc pm an cdv ct)
theorem kQm {oc:Value}{od an:Option Addr}{osl:Array (Option Value)}{kV doc pm cdv ct:Value}(l:K.lookup f=some ⟨oc,od,.func (PySem.W.fnOf x qual (jKp st) (jJx st) (jJd st) .none kV doc pm an cdv ct),osl⟩)(c:PySem.W.codeIn K cdv qual=true)(k:PySem.W.keepIn K (.ref f)=true):Fun K x qual st f (PySem.W.fnOf x qual (jKp st) (jJx st) (jJd st) .none kV doc pm an cdv ct):=⟨⟨oc,od,kV,doc,pm,an,cdv,ct,osl,rfl,l,c⟩,k⟩
end
theorem kV9 {A:Around}{k:Nat}(hr:Room k A):A.units+20<cLine:=Nat.lt_of_le_of_lt (Nat.add_le_add_left (by decide:20<=64) _) hr.units
theorem pv (i:Nat){pos:Pos}(hN:X.N[i]? =some x:=by rfl)(hv:Vis X.env.scope x:=by first | exact Or.inl rfl | exact Or.inr (Or.inl rfl) | exact Or.inr (Or.inr rfl))(hd:(x == ("__debug__":Str))=false:=by decide)(hcd:(x == ("__classdict__":Str))=false:=by decide):PE X (.Name x pos) (tVar i):=jZ0 hN hv hd hcd
end L2
set_option Elab.async false
set_option linter.all false
set_option maxRecDepth 100000
set_option maxHeartbeats 5000000
namespace L3
open PySem PySem.Spec PyProof.Rows L2
inductive T where
 | non | bl (b:Bool) | int (i:Int) | str (x:Str) | tup (xs:List T) | scr (xs:List T) | ref (a:Addr) | ty (n:String)
structure Ext (H H':Hp):Prop where
 tup:∀b xs,H b=some (.tup xs)->H' b=some (.tup xs)
 frz:∀b ob u,H b=some (.frz ob u)->H' b=some (.frz ob u)
theorem Ext.refl (H:Hp):Ext H H:=⟨fun _ _ h=>h,fun _ _ _ h=>h⟩
variable {H H1:Hp}
theorem Ext.trans {H2:Hp}(a:Ext H H1)(b:Ext H1 H2):Ext H H2:=⟨fun c o h=>b.tup c o (a.tup c o h),fun c o u h=>b.frz c o u (a.frz c o u h)⟩
noncomputable def FrL (K:PySem.W.Frag)(H:Hp)(a:Addr)(xs:List V):Prop:=
 (∃ob,H a=some (.frz ob (.lst xs)))\/
  ∃(o:Obj) (its:Array Value) (n:Nat),K.lookup a=some o/\o.cls= .type "list"/\o.dict=none/\o.data= .seq its n/\its.size<=sizeLine/\Vals xs its.toList
variable {K:PySem.W.Frag}{a:Addr}
theorem FrL.sq {xs:List V}(h:FrL K H a xs):SqL K H a xs:=by
 rcases h with ⟨ob,h⟩ | h
 ·exact .inl (.inr ⟨ob,h⟩)
 ·exact .inr h
variable {H':Hp}
theorem FrL.mono {xs:List V}(e:Ext H H')(h:FrL K H a xs):FrL K H' a xs:=by
 rcases h with ⟨ob,h⟩ | h
 ·exact .inl ⟨ob,e.frz _ _ _ h⟩
 ·exact .inr h
mutual
noncomputable def Rep (K:PySem.W.Frag) (H:Hp):T->V->Prop
 | .non,v=>v= .non
 | .bl b,v=>v= .bl b
 | .int i,v=>v= .int i
 | .str x,v=>v= .str x
 | .ref a,v=>v= .ref a
 | .ty n,v=>v= .ty n
 | .tup xs,v=>∃a vs,v= .ref a/\H a=some (.tup vs)/\Reps K H xs vs
 | .scr xs,v=>∃a vs,v= .ref a/\FrL K H a vs/\Reps K H xs vs
noncomputable def Reps (K:PySem.W.Frag) (H:Hp):List T->List V->Prop
 | [],vs=>vs=[]
 | x::xs,vs=>∃v ws,vs=v::ws/\Rep K H x v/\Reps K H xs ws
end
mutual
theorem Rep.mono {K:PySem.W.Frag} {H H':Hp} (e:Ext H H'):∀(x:T) {v:V},Rep K H x v->Rep K H' x v
 | .non,_,h=>h
 | .bl _,_,h=>h
 | .int _,_,h=>h
 | .str _,_,h=>h
 | .ref _,_,h=>h
 | .ty _,_,h=>h
 | .tup xs,_,⟨a,vs,r1,r2,r3⟩=>⟨a,vs,r1,e.tup _ _ r2,Reps.mono e xs r3⟩
 | .scr xs,_,⟨a,vs,r1,r2,r3⟩=>⟨a,vs,r1,r2.mono e,Reps.mono e xs r3⟩
theorem Reps.mono {K:PySem.W.Frag} {H H':Hp} (e:Ext H H'):∀(xs:List T) {vs:List V},Reps K H xs vs->Reps K H' xs vs
 | [],_,h=>h
 | x::xs,_,⟨v,ws,r1,r2,r3⟩=>⟨v,ws,r1,Rep.mono e x r2,Reps.mono e xs r3⟩
end
variable {x:T}{v:V}{xs:List T}{vs:List V}
theorem Reps.length:∀ {xs:List T} {vs:List V},Reps K H xs vs->xs.length=vs.length
 | [],_,h=>by cases h;rfl
 | _::_,_,⟨_,_,r1,_,r3⟩=>by subst r1;simp[Reps.length r3]
theorem Reps.get:∀ {xs:List T} {vs:List V} {i:Nat} {x:T},Reps K H xs vs->xs[i]? =some x->∃v,vs[i]? =some v/\Rep K H x v
 | [],_,_,_,_,e=>by simp at e
 | y::ys,_,0,x,⟨v,ws,r1,r2,r3⟩,e=>by subst r1;simp at e;subst e;exact⟨v,rfl,r2⟩
 | y::ys,_,i+1,x,⟨v,ws,r1,r2,r3⟩,e=>by subst r1;simpa using Reps.get r3 (by simpa using e)
theorem Reps.get':∀ {xs:List T} {vs:List V} {i:Nat} {v:V},Reps K H xs vs->vs[i]? =some v->∃x,xs[i]? =some x/\Rep K H x v
 | [],_,_,_,h,e=>by cases h;simp at e
 | y::ys,_,0,x,⟨v,ws,r1,r2,r3⟩,e=>by subst r1;simp at e;subst e;exact⟨y,rfl,r2⟩
 | y::ys,_,i+1,x,⟨v,ws,r1,r2,r3⟩,e=>by subst r1;simpa using Reps.get' r3 (by simpa using e)
theorem Reps.append:∀ {xs ys:List T} {vs ws:List V},Reps K H xs vs->Reps K H ys ws->Reps K H (xs++ys) (vs++ws)
 | [],_,_,_,h,h2=>by cases h;exact h2
 | _::_,_,_,_,⟨v,ws,r1,r2,r3⟩,h2=>by subst r1;exact⟨v,_,rfl,r2,Reps.append r3 h2⟩
theorem Reps.one (r:Rep K H x v):Reps K H [x] [v]:=⟨v,[],rfl,r,rfl⟩
theorem Reps.set {x:T} {v:V} (r:Rep K H x v):∀ {xs:List T} {vs:List V} (i:Nat),Reps K H xs vs->Reps K H (xs.set i x) (vs.set i v)
 | [],_,_,e=>by cases e;rfl
 | _::_,_,0,⟨_,ws,r1,r2,r3⟩=>by subst r1;exact⟨v,ws,rfl,r,r3⟩
 | _::_,_,i+1,⟨u,ws,r1,r2,r3⟩=>by subst r1;exact⟨u,_,rfl,r2,Reps.set r i r3⟩
theorem Reps.take:∀ {xs:List T} {vs:List V} (n:Nat),Reps K H xs vs->Reps K H (xs.take n) (vs.take n)
 | _,_,0,_=>by simp[Reps]
 | [],_,_+1,h=>by cases h;simp[Reps]
 | _::_,_,n+1,⟨u,ws,r1,r2,r3⟩=>by subst r1;exact⟨u,_,rfl,r2,Reps.take n r3⟩
theorem Reps.drop:∀ {xs:List T} {vs:List V} (n:Nat),Reps K H xs vs->Reps K H (xs.drop n) (vs.drop n)
 | _,_,0,h=>h
 | [],_,_+1,h=>by cases h;simp[Reps]
 | _::_,_,n+1,⟨u,ws,r1,r2,r3⟩=>by subst r1;exact Reps.drop n r3
theorem Reps.rep {xs:List T} {vs:List V} (r:Reps K H xs vs):∀n:Nat,Reps K H (List.replicate n xs).flatten (List.replicate n vs).flatten
 | 0=>by simp[Reps]
 | n+1=>by simpa[List.replicate_succ] using r.append (Reps.rep r n)
theorem Reps.atI {i:Int}(r:Reps K H xs vs)(h:atI xs i=some x):∃v,atI vs i=some v/\Rep K H x v:=by
 unfold L2.atI at h ⊢
 rw[<-r.length]
 cases e:ixN xs.length i with
 | none=>rw[e] at h;cases h
 | some j=>rw[e] at h;exact r.get h
inductive GO where
 | lst (xs:List T) | dct (kvs:List (TKey×T)) | dck (kvs:List (Key×T)) | fdc (kvs:List (TKey×T)) | ins (cn:Str) (fs:List (Str×T)) | exc (cn:Str)
abbrev Gp:=Addr->Option GO
def gup (G:Gp)(a:Addr)(o:GO):Gp:=fun b=>if b=a then some o else G b
variable {G:Gp}{o:GO}
theorem jJg:gup G a o a=some o:=by simp[gup]
theorem jJi {b:Addr}(h:b≠a):gup G a o b=G b:=by simp[gup,h]
theorem jUp {o':GO}:gup (gup G a o) a o'=gup G a o':=by funext b;by_cases h:b=a<;>simp[gup,h]
def asL:Option GO->Option (List T)
 | some (.lst xs)=>some xs
 | _=>none
def seqT (G:Gp):T->Option (List T)
 | .tup xs=>some xs
 | .scr xs=>some xs
 | .ref a=>asL (G a)
 | _=>none
def PKV {κ:Type}(K:PySem.W.Frag)(H:Hp):List (κ×T)->List (κ×V)->Prop:=Paired fun p q=>p.1=q.1/\Rep K H p.2 q.2
def jKe (cn:Str):Option Str:=if cn="Clash:doors" then some "doors" else if cn="Clash:end" then some "end" else if cn="Clash:taken" then some "taken" else none
def nmOf (cn:Str):Str:=if (jKe cn).isSome=true then "Clash" else cn
def WhyH (H:Hp)(o:Option Str)(d:Option Addr):Prop:=∀y,o=some y->∃(dx:Addr) (od:Obj),d=some dx/\H dx=some (.frz od (.xd [("why",.str y)]))
theorem WhyH.mono {o:Option Str}{d:Option Addr}(h:WhyH H o d)(e:Ext H H'):WhyH H' o d:=fun y q=>let ⟨dx,od,h1,h2⟩:=h y q;⟨dx,od,h1,e.frz _ _ _ h2⟩
noncomputable def GOk (K:PySem.W.Frag)(H:Hp)(a:Addr):GO->Prop
 | .lst xs=>∃vs,H a=some (.lst vs)/\Reps K H xs vs
 | .dct kvs=>∃ws,H a=some (.dT ws)/\PKV K H kvs ws
 | .dck kvs=>∃ws,H a=some (.dK ws)/\PKV K H kvs ws
 | .fdc kvs=>∃ob ws,H a=some (.frz ob (.dT ws))/\PKV K H kvs ws
 | .ins cn fs=>∃C dx ws,H a=some (.ins C dx ws)/\PySem.W.nsIn K mainGlobals cn=some (some (.ref C))/\PKV K H fs ws
 | .exc cn=>∃ob C u,H a=some (.frz ob u)/\ob.cls= .ref C/\PySem.W.nsIn K mainGlobals (nmOf cn)=some (some (.ref C))/\PySem.W.notCls ob=true/\WhyH H (jKe cn) ob.dict
def GRel (K:PySem.W.Frag)(H:Hp)(G:Gp):Prop:=∀a o,G a=some o->GOk K H a o
variable {C:Addr}
theorem PKV.mono {κ:Type}{kvs:List (κ×T)}{ws:List (κ×V)}(e:Ext H H')(h:PKV K H kvs ws):PKV K H' kvs ws:=Paired.mapP h fun _ _ z=>⟨z.1,Rep.mono e _ z.2⟩
theorem GOk.move (h:GOk K H a o)(e:Ext H H')(ha:H' a=H a):GOk K H' a o:=by
 cases o with
 | lst xs=>obtain⟨vs,h1,h2⟩:=h;exact⟨vs,ha.trans h1,Reps.mono e _ h2⟩
 | dct kvs=>obtain⟨vs,h1,h2⟩:=h;exact⟨vs,ha.trans h1,h2.mono e⟩
 | dck kvs=>obtain⟨vs,h1,h2⟩:=h;exact⟨vs,ha.trans h1,h2.mono e⟩
 | fdc kvs=>obtain⟨ob,vs,h1,h2⟩:=h;exact⟨ob,vs,ha.trans h1,h2.mono e⟩
 | ins cn fs=>obtain⟨C,dx,ws,h1,h2,h3⟩:=h;exact⟨C,dx,ws,ha.trans h1,h2,h3.mono e⟩
 | exc cn=>obtain⟨ob,C,u,h1,h2,h3,h4⟩:=h;exact⟨ob,C,u,ha.trans h1,h2,h3,h4.1,h4.2.mono e⟩
theorem GOk.some (h:GOk K H a o):H a≠none:=by
 cases o with
 | lst xs=>obtain⟨vs,h1,h2⟩:=h;rw[h1];simp
 | dct kvs=>obtain⟨vs,h1,h2⟩:=h;rw[h1];simp
 | dck kvs=>obtain⟨vs,h1,h2⟩:=h;rw[h1];simp
 | fdc kvs=>obtain⟨ob,vs,h1,h2⟩:=h;rw[h1];simp
 | ins cn fs=>obtain⟨C,dx,ws,h1,h2,h3⟩:=h;rw[h1];simp
 | exc cn=>obtain⟨ob,C,u,h1,h2,h3,h4⟩:=h;rw[h1];simp
theorem GRel.fresh (g:GRel K H G)(h:H a=none):G a=none:=by
 cases e:G a with
 | none=>rfl
 | some o=>exact absurd h (g a o e).some
def Soft (o:Option HO):Prop:=o=none\/(∃xs,o=some (.lst xs))\/(∃kvs,o=some (.dK kvs))\/(∃kvs,o=some (.dT kvs))\/∃C dx fs,o=some (.ins C dx fs)
theorem Ext.upd {o:HO}(h:Soft (H a)):Ext H (L2.upd H a o):=by
 refine⟨fun b xs e=> ?_,fun b ob u e=> ?_⟩
 ·rw[jJk];exact e
  rintro rfl;rw[e] at h;rcases h with h | ⟨_,h⟩ | ⟨_,h⟩ | ⟨_,h⟩ | ⟨_,_,_,h⟩<;>cases h
 ·rw[jJk];exact e
  rintro rfl;rw[e] at h;rcases h with h | ⟨_,h⟩ | ⟨_,h⟩ | ⟨_,h⟩ | ⟨_,_,_,h⟩<;>cases h
theorem GRel.upd {o:HO}{go:GO}(g:GRel K H G)(h:Soft (H a))(n:GOk K (L2.upd H a o) a go):GRel K (L2.upd H a o) (gup G a go):=by
 intro b u e
 by_cases hb:b=a
 ·subst hb;rw[jJg] at e;cases e;exact n
 ·rw[jJi hb] at e;exact (g b u e).move (Ext.upd h) (jJk hb)
theorem Soft.none (h:H a=none):Soft (H a):= .inl h
theorem Soft.lst {xs:List V}(h:H a=some (.lst xs)):Soft (H a):= .inr (.inl ⟨xs,h⟩)
theorem Soft.dT {xs:List (TKey×V)}(h:H a=some (.dT xs)):Soft (H a):= .inr (.inr (.inr (.inl ⟨xs,h⟩)))
theorem Soft.dK {xs:List (Key×V)}(h:H a=some (.dK xs)):Soft (H a):= .inr (.inr (.inl ⟨xs,h⟩))
theorem Soft.ins {dx:Addr}{fs:List (Str×V)}(h:H a=some (.ins C dx fs)):Soft (H a):= .inr (.inr (.inr (.inr ⟨C,dx,fs,h⟩)))
theorem GRel.tupNew (g:GRel K H G)(h:H a=Option.none):GRel K (L2.upd H a (.tup vs)) G:=by
 intro b u e
 have hb:b≠a:=by rintro rfl;exact (g b u e).some h
 exact (g b u e).move (Ext.upd (.none h)) (jJk hb)
theorem Rep.tupNew (r:Reps K H xs vs)(h:H a=Option.none):Rep K (L2.upd H a (.tup vs)) (.tup xs) (.ref a):=
 ⟨a,vs,rfl,jJn,Reps.mono (Ext.upd (.none h)) _ r⟩
theorem GRel.lstNew (g:GRel K H G)(r:Reps K H xs vs)(h:Soft (H a)):GRel K (L2.upd H a (.lst vs)) (gup G a (.lst xs)):=
 g.upd h ⟨vs,jJn,Reps.mono (Ext.upd h) _ r⟩
theorem GRel.lst (g:GRel K H G)(h:G a=some (.lst xs)):∃vs,H a=some (.lst vs)/\Reps K H xs vs:=g a _ h
abbrev St3:=List (Option T)
def SRel (K:PySem.W.Frag)(H:Hp)(σ:L2.St)(τ:St3):Prop:=σ.length=τ.length/\∀(i:Nat) (t:T),τ[i]? =some (some t)->∃v,σ[i]? =some (some v)/\Rep K H t v
variable {σ:L2.St}{τ:St3}
theorem SRel.mono (e:Ext H H')(h:SRel K H σ τ):SRel K H' σ τ:=
 ⟨h.1,fun i t q=>let ⟨v,h1,h2⟩:=h.2 i t q;⟨v,h1,Rep.mono e _ h2⟩⟩
theorem SRel.set {t:T}(h:SRel K H σ τ)(i:Nat)(r:Rep K H t v):SRel K H (σ.set i (some v)) (τ.set i (some t)):=by
 refine⟨by simp[h.1],fun j u q=> ?_⟩
 by_cases hj:i=j
 ·subst hj
  have hl:i<τ.length:=by
   rcases Nat.lt_or_ge i τ.length with z | z
   ·exact z
   ·rw[List.getElem?_eq_none (by simpa using z)] at q;cases q
  rw[List.getElem?_set_self hl] at q
  cases q
  exact⟨v,by rw[List.getElem?_set_self (by rw[h.1];exact hl)],r⟩
 ·rw[List.getElem?_set_ne hj] at q ⊢
  exact h.2 j u q
def Inv3 (X:Cx)(pins:List (Addr×Obj))(τ:St3)(G:Gp)(H:Hp)(s:Shared):Prop:=∃ σ,Inv X pins σ H s/\SRel X.K H σ τ/\GRel X.K H G
abbrev VK3:=T->Gp->Prop
abbrev TE3:=St3->Gp->VK3->Prop
abbrev TT3:=St3->Gp->(Bool->Gp->Prop)->Prop
abbrev TA3:=St3->Gp->(List T->Gp->Prop)->Prop
structure Ends3 where
 nx:St3->Gp->Prop
 rt:VK3
 bk:St3->Gp->Prop:=fun _ _=>False
 ct:St3->Gp->Prop:=fun _ _=>False
abbrev TS3:=Ends3->St3->Gp->Prop
def RU (K:PySem.W.Frag)(H:Hp)(t:T)(u:Value):Prop:=∃v,Rep K H t v/\RelV v u
def RUs (K:PySem.W.Frag)(H:Hp)(ts:List T)(us:List Value):Prop:=∃vs,Reps K H ts vs/\Vals vs us
variable {u:Value}
theorem RU.mono {t:T}(e:Ext H H')(h:RU K H t u):RU K H' t u:=let ⟨v,h1,h2⟩:=h;⟨v,Rep.mono e _ h1,h2⟩
def EP3 (X:Cx)(pins:List (Addr×Obj))(τ:St3)(H:Hp)(Q:VK3)(u:Value)(s':Shared):Prop:=∃t G' H',Ext H H'/\Inv3 X pins τ G' H' s'/\RU X.K H' t u/\Q t G'
def TP3 (X:Cx)(pins:List (Addr×Obj))(τ:St3)(H:Hp)(Q:Bool->Gp->Prop)(b:Bool)(s':Shared):Prop:=∃G' H',Ext H H'/\Inv3 X pins τ G' H' s'/\Q b G'
def AP3 (X:Cx)(pins:List (Addr×Obj))(τ:St3)(H:Hp)(Q:List T->Gp->Prop)(us:List Value)(s':Shared):Prop:=∃ts G' H',Ext H H'/\Inv3 X pins τ G' H' s'/\RUs X.K H' ts us/\Q ts G'
noncomputable def SP3 (X:Cx)(pins:List (Addr×Obj))(H:Hp)(D:Ends3)(f:Flow)(s':Shared):Prop:=
 match f with
 | .next=>∃ τ' G' H',Ext H H'/\Inv3 X pins τ' G' H' s'/\D.nx τ' G'
 | .brk=>∃ τ' G' H',Ext H H'/\Inv3 X pins τ' G' H' s'/\D.bk τ' G'
 | .cont=>∃ τ' G' H',Ext H H'/\Inv3 X pins τ' G' H' s'/\D.ct τ' G'
 | .ret u=>∃t τ' G' H',Ext H H'/\Inv3 X pins τ' G' H' s'/\RU X.K H' t u/\D.rt t G'
noncomputable def PE3 (X:Cx)(e:Expr)(t:TE3):Prop:=∀(pins:List (Addr×Obj)) (s:Shared) (τ:St3) (G:Gp) (H:Hp) (Q:VK3),Inv3 X pins τ G H s->t τ G Q->wpAny (model X.prog X.w) X.A (eval e X.env) (EP3 X pins τ H Q) X.xe s
noncomputable def PT3 (X:Cx)(e:Expr)(t:TT3):Prop:=∀(pins:List (Addr×Obj)) (s:Shared) (τ:St3) (G:Gp) (H:Hp) (Q:Bool->Gp->Prop),Inv3 X pins τ G H s->t τ G Q->wpAny (model X.prog X.w) X.A (isTrue e X.env (eval e X.env)) (TP3 X pins τ H Q) X.xe s
noncomputable def PW3 (X:Cx)(e:Expr)(t:TT3):Prop:=∀(whole:Sem Value) (pins:List (Addr×Obj)) (s:Shared) (τ:St3) (G:Gp) (H:Hp) (Q:Bool->Gp->Prop),Inv3 X pins τ G H s->t τ G Q->wpAny (model X.prog X.w) X.A (isTrue e X.env whole) (TP3 X pins τ H Q) X.xe s
variable {X:Cx}{e:Expr}
theorem PW3.pt {t:TT3}(h:PW3 X e t):PT3 X e t:=h _
noncomputable def PA3 (X:Cx)(es:List Expr)(t:TA3):Prop:=∀(pos:Pos) (pins:List (Addr×Obj)) (s:Shared) (τ:St3) (G:Gp) (H:Hp) (Q:List T->Gp->Prop),Inv3 X pins τ G H s->t τ G Q->wpAny (model X.prog X.w) X.A (spliced (backTo pos (starEach es X.env))) (AP3 X pins τ H Q) X.xe s
noncomputable def PS3 (X:Cx)(st:Stmt)(t:TS3):Prop:=∀(pins:List (Addr×Obj)) (s:Shared) (τ:St3) (G:Gp) (H:Hp) (D:Ends3),Inv3 X pins τ G H s->t D τ G->wpAny (model X.prog X.w) X.A (exec st X.env) (SP3 X pins H D) X.xe s
noncomputable def PSs3 (X:Cx)(st:List Stmt)(t:TS3):Prop:=∀(pins:List (Addr×Obj)) (s:Shared) (τ:St3) (G:Gp) (H:Hp) (D:Ends3),Inv3 X pins τ G H s->t D τ G->wpAny (model X.prog X.w) X.A (execs st X.env) (SP3 X pins H D) X.xe s
variable {pins:List (Addr×Obj)}{s:Shared}{Q:VK3}
section
variable {C:Prop}
theorem EP3.el (h:EP3 X pins τ H Q u s)(k:∀t G' H',Ext H H'->Inv3 X pins τ G' H' s->RU X.K H' t u->Q t G'->C):C:=let ⟨t,G',H',a,b,c,d⟩:=h;k t G' H' a b c d
theorem AP3.el {Q:List T->Gp->Prop}{u:List Value}(h:AP3 X pins τ H Q u s)(k:∀t G' H',Ext H H'->Inv3 X pins τ G' H' s->RUs X.K H' t u->Q t G'->C):C:=let ⟨t,G',H',a,b,c,d⟩:=h;k t G' H' a b c d
theorem TP3.el {Q:Bool->Gp->Prop}{u:Bool}(h:TP3 X pins τ H Q u s)(k:∀G' H',Ext H H'->Inv3 X pins τ G' H' s->Q u G'->C):C:=let ⟨G',H',a,b,c⟩:=h;k G' H' a b c
theorem Inv3.el (h:Inv3 X pins τ G H s)(k:∀ σ,Inv X pins σ H s->SRel X.K H σ τ->GRel X.K H G->C):C:=let ⟨σ,a,b,c⟩:=h;k σ a b c
theorem RU.el {t:T}(h:RU K H t u)(k:∀v,Rep K H t v->RelV v u->C):C:=let ⟨v,a,b⟩:=h;k v a b
theorem RUs.el {t:List T}{u:List Value}(h:RUs K H t u)(k:∀v,Reps K H t v->Vals v u->C):C:=let ⟨v,a,b⟩:=h;k v a b
end
variable {b:Expr}{ta tb:TE3}
theorem EP3.ext (e:Ext H H1)(h:EP3 X pins τ H1 Q u s):EP3 X pins τ H Q u s:=let ⟨t,G',H',a,b⟩:=h;⟨t,G',H',e.trans a,b⟩
theorem TP3.ext {Q:Bool->Gp->Prop}{u:Bool}(e:Ext H H1)(h:TP3 X pins τ H1 Q u s):TP3 X pins τ H Q u s:=let ⟨G',H',a,b⟩:=h;⟨G',H',e.trans a,b⟩
theorem SP3.ext {D:Ends3}{f:Flow}(e:Ext H H1)(h:SP3 X pins H1 D f s):SP3 X pins H D f s:=by
 cases f with
 | next=>obtain⟨τ',G',H',a,b⟩:=h;exact⟨τ',G',H',e.trans a,b⟩
 | brk=>obtain⟨τ',G',H',a,b⟩:=h;exact⟨τ',G',H',e.trans a,b⟩
 | cont=>obtain⟨τ',G',H',a,b⟩:=h;exact⟨τ',G',H',e.trans a,b⟩
 | ret u=>obtain⟨t,τ',G',H',a,b⟩:=h;exact⟨t,τ',G',H',e.trans a,b⟩
theorem Inv3.tok (I:Inv3 X pins τ G H s)(t:Nat):Inv3 X pins τ G H {s with toks:=t}:=let ⟨σ,I,a,b⟩:=I;⟨σ,I.tok t,a,b⟩
theorem bin3 {a:Expr}(ha:PE3 X a ta)(hb:PE3 X b tb){R:T->T->Gp->Prop}(I:Inv3 X pins τ G H s)(h:ta τ G fun x G1=>tb τ G1 fun y G2=>R x y G2){α:Type}{Q:α->Shared->Prop}{f:Value->Value->Sem α}(hf:∀v u s2 x y G2 H2,Ext H H2->Inv3 X pins τ G2 H2 s2->RU X.K H2 x v->RU X.K H2 y u->R x y G2->wpAny (model X.prog X.w) X.A (f v u) Q X.xe s2):
  wpAny (model X.prog X.w) X.A (eval a X.env) (fun v s₁=>wpAny (model X.prog X.w) X.A (eval b X.env) (fun u s₂=>wpAny (model X.prog X.w) X.A (f v u) Q X.xe s₂) X.xe s₁) X.xe s:=by
 refine thn (ha pins s τ G H _ I h) fun v s1 w_=>w_.el fun x G1 H1 e1 I1 r1 q1=> ?_
 refine thn (hb pins s1 τ G1 H1 _ I1 q1) fun u s2 w_=>w_.el fun y G2 H2 e2 I2 r2 q2=> ?_
 exact hf v u s2 x y G2 H2 (e1.trans e2) I2 (r1.mono e2) r2 q2
def up (K:PySem.W.Frag)(H:Hp)(Q:VK3):VK:=fun v H'=>∃t G',Ext H H'/\GRel K H' G'/\Rep K H' t v/\Q t G'
theorem jQo (hs:SRel X.K H σ τ)(h:EP X pins σ (up X.K H Q) u s):EP3 X pins τ H Q u s:=
 let ⟨v,H',I',r',t,G',e,g',rt,q⟩:=h
 ⟨t,G',H',e,⟨σ,I',hs.mono e,g'⟩,⟨v,rt,r'⟩,q⟩
variable {pos:Pos}
def tVar (i:Nat):TE3:=fun τ G Q=>∃t,τ[i]? =some (some t)/\Q t G
def tC (t:T):TE3:=fun _ G Q=>Q t G
theorem jJc (i:Nat){x:Str}(hN:X.N[i]? =some x:=by rfl)(hv:Vis X.env.scope x:=by first | exact Or.inl rfl | exact Or.inr (Or.inl rfl) | exact Or.inr (Or.inr rfl))(hd:(x == ("__debug__":Str))=false:=by decide)(hcd:(x == ("__classdict__":Str))=false:=by decide):PE3 X (.Name x pos) (tVar i):=by
 rintro pins s τ G H Q ⟨σ,I,hs,hg⟩ ⟨t,e,q⟩
 obtain⟨v,ev,rv⟩:=hs.2 i t e
 exact thn (jZ0 hN hv hd hcd pins s σ H (up X.K H Q) I ⟨v,ev,t,G,.refl H,hg,rv,q⟩) fun u s' h=>jQo hs h
theorem jJj {i j}:PE3 X (.Constant (.int i) j pos) (tC (.int i)):=fun pins s τ G H Q ⟨σ,I,hs,hg⟩ q=>
 thn (pe_int pins s σ H (up X.K H Q) I ⟨.int i,G,.refl H,hg,rfl,q⟩) fun u s' h=>jQo hs h
theorem e_bl {b j}:PE3 X (.Constant (.bool b) j pos) (tC (.bl b)):=fun pins s τ G H Q ⟨σ,I,hs,hg⟩ q=>
 thn (pe_bl pins s σ H (up X.K H Q) I ⟨.bl b,G,.refl H,hg,rfl,q⟩) fun u s' h=>jQo hs h
theorem jX0 {j}:PE3 X (.Constant .none j pos) (tC .non):=fun pins s τ G H Q ⟨σ,I,hs,hg⟩ q=>
 thn (pe_non pins s σ H (up X.K H Q) I ⟨.non,G,.refl H,hg,rfl,q⟩) fun u s' h=>jQo hs h
theorem jJw {x j}:PE3 X (.Constant (.str x) j pos) (tC (.str x)):=fun pins s τ G H Q ⟨σ,I,hs,hg⟩ q=>
 thn (pe_str pins s σ H (up X.K H Q) I ⟨.str x,G,.refl H,hg,rfl,q⟩) fun u s' h=>jQo hs h
abbrev R3:=T->T->Gp->VK3->Prop
noncomputable def Op3 (X:Cx)(f:Value->Value->Sem Value)(r:R3):Prop:=
 ∀(pins:List (Addr×Obj)) (s:Shared) (τ:St3) (G:Gp) (H:Hp) (x y:T) (v u:Value) (Q:VK3),Inv3 X pins τ G H s->RU X.K H x v->RU X.K H y u->r x y G Q->wpAny (model X.prog X.w) X.A (f v u) (EP3 X pins τ H Q) X.xe s
noncomputable def Un3 (X:Cx)(f:Value->Sem Value)(r:T->Gp->VK3->Prop):Prop:=
 ∀(pins:List (Addr×Obj)) (s:Shared) (τ:St3) (G:Gp) (H:Hp) (x:T) (v:Value) (Q:VK3),Inv3 X pins τ G H s->RU X.K H x v->r x G Q->wpAny (model X.prog X.w) X.A (f v) (EP3 X pins τ H Q) X.xe s
noncomputable def Call3 (X:Cx)(f:Value)(r:List T->Gp->VK3->Prop):Prop:=
 ∀(pins:List (Addr×Obj)) (s:Shared) (τ:St3) (G:Gp) (H:Hp) (xs:List T) (us:List Value) (Q:VK3),Inv3 X pins τ G H s->RUs X.K H xs us->r xs G Q->wpAny (model X.prog X.w) X.A (call f us) (EP3 X pins τ H Q) X.xe s
noncomputable def Mt3 (X:Cx)(id:String)(r:T->List T->Gp->VK3->Prop):Prop:=
 ∀(pins:List (Addr×Obj)) (s:Shared) (τ:St3) (G:Gp) (H:Hp) (x:T) (xs:List T) (v:Value) (us:List Value) (Q:VK3),Inv3 X pins τ G H s->RU X.K H x v->RUs X.K H xs us->r x xs G Q->
  wpAny (model X.prog X.w) X.A (call (.builtin id) (v::us)) (EP3 X pins τ H Q) X.xe s
noncomputable def Ix3 (X:Cx)(r:R3):Prop:=
 ∀(value slice:Expr) (pins:List (Addr×Obj)) (s:Shared) (τ:St3) (G:Gp) (H:Hp) (x y:T) (v u:Value) (Q:VK3),Inv3 X pins τ G H s->RU X.K H x v->RU X.K H y u->r x y G Q->
  subscripted slice false v u=operate [v,u] (getItem v u)->wpAny (model X.prog X.w) X.A (subscriptTail value slice v u) (EP3 X pins τ H Q) X.xe s
noncomputable def Set3 (X:Cx)(r:T->T->T->Gp->(Gp->Prop)->Prop):Prop:=
 ∀(pins:List (Addr×Obj)) (s:Shared) (τ:St3) (G:Gp) (H:Hp) (o i v:T) (ov iv u:Value) (Q:Gp->Prop),Inv3 X pins τ G H s->RU X.K H o ov->RU X.K H i iv->RU X.K H v u->r o i v G Q->
  wpAny (model X.prog X.w) X.A (setItem ov iv u) (fun _ s'=>∃G' H',Ext H H'/\Inv3 X pins τ G' H' s'/\Q G') X.xe s
variable {f:Value->Value->Sem Value}{r3 r r':R3}{g':Int->Int->T}
theorem Op3.of {r:R2}(h:OpR X f r)(hr:∀H G x y a b Q,GRel X.K H G->Rep X.K H x a->Rep X.K H y b->r3 x y G Q->r a b H (up X.K H Q)):Op3 X f r3:=by
 rintro pins s τ G H x y v u Q ⟨σ,I,hs,hg⟩ ⟨a,ra,rv⟩ ⟨b,rb,ru⟩ q
 exact thn (h pins s σ H a b v u _ I rv ru (hr H G x y a b Q hg ra rb q)) fun u s' h=>jQo hs h
theorem Un3.of {f:Value->Sem Value}{r:V->Hp->VK->Prop}{r3:T->Gp->VK3->Prop}(h:UnR X f r)(hr:∀H G x a Q,GRel X.K H G->Rep X.K H x a->r3 x G Q->r a H (up X.K H Q)):Un3 X f r3:=by
 rintro pins s τ G H x v Q ⟨σ,I,hs,hg⟩ ⟨a,ra,rv⟩ q
 exact thn (h pins s σ H a v _ I rv (hr H G x a Q hg ra q)) fun u s' h=>jQo hs h
theorem Call3.of {f:Value}{r:List V->Hp->VK->Prop}{r3:List T->Gp->VK3->Prop}(h:kK0 X f r)(hr:∀H G xs as Q,GRel X.K H G->Reps X.K H xs as->r3 xs G Q->r as H (up X.K H Q)):Call3 X f r3:=by
 rintro pins s τ G H xs us Q ⟨σ,I,hs,hg⟩ ⟨as,ra,rv⟩ q
 exact thn (h pins s σ H as us _ I rv (hr H G xs as Q hg ra q)) fun u s' h=>jQo hs h
theorem Mt3.of {id:String}{r:V->List V->Hp->VK->Prop}{r3:T->List T->Gp->VK3->Prop}(h:MtR X id r)(hr:∀H G x xs a as Q,GRel X.K H G->Rep X.K H x a->Reps X.K H xs as->r3 x xs G Q->r a as H (up X.K H Q)):Mt3 X id r3:=by
 rintro pins s τ G H x xs v us Q ⟨σ,I,hs,hg⟩ ⟨a,ra,rv⟩ ⟨as,ras,rvs⟩ q
 exact thn (h pins s σ H a as v us _ I rv rvs (hr H G x xs a as Q hg ra ras q)) fun u s' h=>jQo hs h
theorem Ix3.of {r:R2}(h:IxR X r)(hr:∀H G x y a b Q,GRel X.K H G->Rep X.K H x a->Rep X.K H y b->r3 x y G Q->r a b H (up X.K H Q)):Ix3 X r3:=by
 rintro value slice pins s τ G H x y v u Q ⟨σ,I,hs,hg⟩ ⟨a,ra,rv⟩ ⟨b,rb,ru⟩ q hh
 exact thn (h value slice pins s σ H a b v u _ I rv ru (hr H G x y a b Q hg ra rb q) hh) fun u s' h=>jQo hs h
theorem Set3.of {t:TSet}{r3:T->T->T->Gp->(Gp->Prop)->Prop}(h:PSet X t)(hr:∀H G o i v a b c Q,GRel X.K H G->Rep X.K H o a->Rep X.K H i b->Rep X.K H v c->r3 o i v G Q->t a b c H (fun H'=>∃G',Ext H H'/\GRel X.K H' G'/\Q G')):Set3 X r3:=by
 rintro pins s τ G H o i v ov iv u Q ⟨σ,I,hs,hg⟩ ⟨a,ra,rv⟩ ⟨b,rb,ru⟩ ⟨c,rc,rw'⟩ q
 exact thn (h pins s σ H a b c ov iv u _ I rv ru rw' (hr H G o i v a b c Q hg ra rb rc q)) fun _ s' ⟨H',I',G',e,g',q'⟩=>⟨G',H',e,⟨σ,I',hs.mono e,g'⟩,q'⟩
theorem Op3.or (h:Op3 X f r)(h':Op3 X f r'):Op3 X f (fun x y G Q=>r x y G Q\/r' x y G Q):=by
 intro pins s τ G H x y v u Q I rx ry q
 rcases q with q | q
 ·exact h pins s τ G H x y v u Q I rx ry q
 ·exact h' pins s τ G H x y v u Q I rx ry q
def rI (C:Int->Int->Prop)(g:Int->Int->T):R3:=fun x y G Q=>∃i j,x= .int i/\y= .int j/\C i j/\Q (g i j) G
def rI0 (g:Int->Int->T):R3:=fun x y G Q=>∃i j,x= .int i/\y= .int j/\Q (g i j) G
theorem o_I {C:Int->Int->Prop}{g:Int->Int->V}(h:OpR X f (L2.rI C g))(hg':∀K H i j,Rep K H (g' i j) (g i j)):Op3 X f (rI C g'):=
 Op3.of h fun H G x y a b Q hg ra rb ⟨i,j,ex,ey,c,q⟩=>by
  subst ex;subst ey
  cases (show a= .int i from ra);cases (show b= .int j from rb)
  exact⟨i,j,rfl,rfl,c,g' i j,G,.refl H,hg,hg' _ _ i j,q⟩
theorem o_I0 {g:Int->Int->V}(h:OpR X f (L2.rI0 g))(hg':∀K H i j,Rep K H (g' i j) (g i j)):Op3 X f (rI0 g'):=
 Op3.of h fun H G x y a b Q hg ra rb ⟨i,j,ex,ey,q⟩=>by
  subst ex;subst ey
  cases (show a= .int i from ra);cases (show b= .int j from rb)
  exact⟨i,j,rfl,rfl,g' i j,G,.refl H,hg,hg' _ _ i j,q⟩
theorem o_add:Op3 X (binaryOp .Add) (rI0 fun i j=> .int (i+j)):=o_I0 op_add fun _ _ _ _=>rfl
theorem o_mul:Op3 X (binaryOp .Mult) (rI CMul fun i j=> .int (i*j)):=o_I op_mul fun _ _ _ _=>rfl
theorem o_fdiv:Op3 X (binaryOp .FloorDiv) (rI CDiv fun i j=> .int (i / j)):=o_I qJ6 fun _ _ _ _=>rfl
theorem jYe:Op3 X (binaryOp .Mod) (rI (fun _ j=>0<j) fun i j=> .int (i%j)):=o_I op_mod fun _ _ _ _=>rfl
theorem o_pow:Op3 X (binaryOp .Pow) (rI CPow fun i j=> .int (i^j.toNat)):=o_I op_pow fun _ _ _ _=>rfl
theorem o_lt:Op3 X (compareOp .Lt) (rI0 fun i j=> .bl (decide (i<j))):=o_I0 op_lt fun _ _ _ _=>rfl
theorem o_le:Op3 X (compareOp .LtE) (rI0 fun i j=> .bl (decide (i<=j))):=o_I0 op_le fun _ _ _ _=>rfl
theorem o_gt:Op3 X (compareOp .Gt) (rI0 fun i j=> .bl (decide (j<i))):=o_I0 op_gt fun _ _ _ _=>rfl
theorem o_ge:Op3 X (compareOp .GtE) (rI0 fun i j=> .bl (decide (j<=i))):=o_I0 op_ge fun _ _ _ _=>rfl
def kJd:T->Bool
 | .non=>true
 | _=>false
theorem Rep.non_iff {a:V}(r:Rep K H x a):decide (a= .non)=kJd x:=by
 cases x with
 | non=>cases (show a= .non from r);rfl
 | bl b=>cases (show a= .bl b from r);rfl
 | int b=>cases (show a= .int b from r);rfl
 | str b=>cases (show a= .str b from r);rfl
 | ref b=>cases (show a= .ref b from r);rfl
 | ty b=>cases (show a= .ty b from r);rfl
 | tup b=>obtain⟨_,_,e,_⟩:=(show ∃c vs,a= .ref c/\_ from r);subst e;rfl
 | scr b=>obtain⟨_,_,e,_⟩:=(show ∃c vs,a= .ref c/\_ from r);subst e;rfl
theorem kVn:Op3 X (compareOp .Is) (fun x y G Q=>y= .non/\Q (.bl (kJd x)) G):=
 Op3.of op_isN fun H G x y a b Q hg ra rb ⟨ey,q⟩=>by
  subst ey;cases (show b= .non from rb)
  exact⟨rfl,.bl (kJd x),G,.refl H,hg,by rw[ra.non_iff];rfl,q⟩
theorem qJd:Op3 X (compareOp .IsNot) (fun x y G Q=>y= .non/\Q (.bl (!kJd x)) G):=
 Op3.of qJ5 fun H G x y a b Q hg ra rb ⟨ey,q⟩=>by
  subst ey;cases (show b= .non from rb)
  exact⟨rfl,.bl (!kJd x),G,.refl H,hg,by rw[ra.non_iff];rfl,q⟩
def tOp (r:R3)(ta tb:TE3):TE3:=fun τ G Q=>ta τ G fun x G1=>tb τ G1 fun y G2=>r x y G2 Q
def tUn (r:T->Gp->VK3->Prop)(ta:TE3):TE3:=fun τ G Q=>ta τ G fun x G1=>r x G1 Q
def jJq (t:TE3):TT3:=fun τ G Q=>t τ G fun x G1=>∃c,x= .bl c/\Q c G1
def tAnd (t u:TT3):TT3:=fun τ G Q=>t τ G fun c G1=>if c=true then u τ G1 Q else Q false G1
def tOr (t u:TT3):TT3:=fun τ G Q=>t τ G fun c G1=>if c=true then Q true G1 else u τ G1 Q
def tNot (t:TT3):TT3:=fun τ G Q=>t τ G fun c G1=>Q (!c) G1
def qJs (ta tb:TE3):TE3:=fun τ G Q=>ta τ G fun x G1=>∃c,x= .bl c/\if c=true then tb τ G1 Q else Q (.bl false) G1
def tOrV (ta tb:TE3):TE3:=fun τ G Q=>ta τ G fun x G1=>∃c,x= .bl c/\if c=true then Q (.bl true) G1 else tb τ G1 Q
def tNotV (ta:TE3):TE3:=fun τ G Q=>ta τ G fun x G1=>∃c,x= .bl c/\Q (.bl (!c)) G1
def tIf (t:TT3)(ta tb:TE3):TE3:=fun τ G Q=>t τ G fun c G1=>if c=true then ta τ G1 Q else tb τ G1 Q
noncomputable def jYj (r r':R3)(ta tb tc:TE3):TE3:=fun τ G Q=>ta τ G fun x G1=>tb τ G1 fun y G2=>r x y G2 fun z G3=>∃k,z= .bl k/\if k=true then tc τ G3 (fun w G4=>r' y w G4 Q) else Q (.bl false) G3
def tNil:TA3:=fun _ G Q=>Q [] G
def jJa (ta:TE3)(tr:TA3):TA3:=fun τ G Q=>ta τ G fun x G1=>tr τ G1 fun xs G2=>Q (x::xs) G2
def tTup (t:TA3):TE3:=fun τ G Q=>t τ G fun xs G1=>xs.length<=sizeLine/\Q (.tup xs) G1
def tLst (t:TA3):TE3:=fun τ G Q=>t τ G fun xs G1=>xs.length<=sizeLine/\∀p,G1 p=none->Q (.ref p) (gup G1 p (.lst xs))
def tCB (r:List T->Gp->VK3->Prop)(t:TA3):TE3:=fun τ G Q=>t τ G fun xs G1=>r xs G1 Q
variable {c:Expr}{tc te to:TE3}{es:List Expr}{op:CmpOp}{p:Pos}{T0:String}
section
variable {a:Expr}{tA tB:TT3}{rest:List Expr}{t:TA3}
theorem e_op {op:Operator}(ho:Op3 X (binaryOp op) r)(ha:PE3 X a ta)(hb:PE3 X b tb):PE3 X (.BinOp a op b pos) (tOp r ta tb):=by
 intro pins s τ G H Q I h
 exact wpAny_BinOp (bin3 ha hb I h fun v u s2 x y G2 H2 e I2 rx ry q=>thn (ho pins s2 τ G2 H2 x y v u Q I2 rx ry q) fun _ _ z=>z.ext e)
theorem e_un {op:UnaryOp}{r:T->Gp->VK3->Prop}(ho:Un3 X (unaryOp op) r)(ha:PE3 X a ta):PE3 X (.UnaryOp op a pos) (tUn r ta):=by
 intro pins s τ G H Q I h
 exact UnaryOp_ (thn (ha pins s τ G H _ I h) fun v s1 w_=>w_.el fun x G1 H1 e I1 r1 q1=>thn (ho pins s1 τ G1 H1 x v Q I1 r1 q1) fun _ _ z=>z.ext e)
theorem kUk (ho:Op3 X (compareOp op) r)(ha:PE3 X a ta)(hb:PE3 X b tb)(hm:behindInMarks op b=false):PE3 X (.Compare a [op] [b] pos) (tOp r ta tb):=by
 intro pins s τ G H Q I h
 exact wpAny_Compare1 (bin3 ha hb I h fun v u s2 x y G2 H2 e I2 rx ry q=>thn (ho pins s2 τ G2 H2 x y v u Q I2 rx ry q) fun _ _ z=>z.ext e) hm
theorem jKm (ho:Op3 X (compareOp op) r)(ha:PE3 X a ta)(hb:PE3 X b tb)(hm:behindInMarks op b=false):PT3 X (.Compare a [op] [b] pos) (jJq (tOp r ta tb)):=by
 intro pins s τ G H Q I h
 refine wpAny_isTrue_Compare1 (bin3 ha hb I h fun v u s2 x y G2 H2 e I2 rx ry q=>thn (ho pins s2 τ G2 H2 x y v u _ I2 rx ry q) fun w' s3 w_=>w_.el fun z G3 H3 e3 I3 r3 ⟨k,ez,q3⟩=> ?_) hm
 subst ez
 obtain⟨v',rv',ru'⟩:=r3
 cases (show v'= .bl k from rv');cases ru'
 exact wpAny_truthy_bool ⟨G3,H3,e.trans e3,I3,q3⟩
theorem kYm {t:TE3}(h:PE3 X e t)(he:∀whole,isTrue e X.env whole=(do let v <-whole;standAt e.pos;holding [v] (truthy v)):=by intro _;rfl):PT3 X e (jJq t):=by
 intro pins s τ G H Q I hw
 refine isTrue_plain (thn (h pins s τ G H _ I hw) fun v s1 w_=>w_.el fun x G1 H1 e1 I1 r1 ⟨k,ez,q1⟩=> ?_) (he _)
 subst ez
 obtain⟨v',rv',ru'⟩:=r1
 cases (show v'= .bl k from rv');cases ru'
 exact wpAny_truthy_bool ⟨G1,H1,e1,I1,q1⟩
def tTru (r:T->Gp->(Bool->Gp->Prop)->Prop)(t:TE3):TT3:=fun τ G Q=>t τ G fun x G1=>r x G1 Q
theorem kUu (ha:PT3 X a tA):PW3 X (.BoolOp .And [a] pos) tA:=by
 intro wh pins s τ G H Q I h
 refine isTrue_and (thn (ha pins s τ G H Q I h) fun c s1 e=> ?_)
 cases c with
 | true=>exact isTrue_and_nil e
 | false=>exact e
theorem kYh (ha:PT3 X a tA):PW3 X (.BoolOp .Or [a] pos) tA:=by
 intro wh pins s τ G H Q I h
 refine isTrue_or (thn (ha pins s τ G H Q I h) fun c s1 e=> ?_)
 cases c with
 | false=>exact isTrue_or_nil e
 | true=>exact e
theorem kYi (ha:PT3 X a tA)(hb:PW3 X (.BoolOp .And (b::rest) pos) tB):PW3 X (.BoolOp .And (a::b::rest) pos) (tAnd tA tB):=by
 intro wh pins s τ G H Q I h
 refine isTrue_and (thn (ha pins s τ G H _ I h) fun c s1 w_=>w_.el fun G1 H1 e1 I1 q1=> ?_)
 cases c with
 | true=>exact thn (hb wh pins s1 τ G1 H1 Q I1 q1) fun _ _ z=>z.ext e1
 | false=>exact⟨G1,H1,e1,I1,q1⟩
theorem w_or (ha:PT3 X a tA)(hb:PW3 X (.BoolOp .Or (b::rest) pos) tB):PW3 X (.BoolOp .Or (a::b::rest) pos) (tOr tA tB):=by
 intro wh pins s τ G H Q I h
 refine isTrue_or (thn (ha pins s τ G H _ I h) fun c s1 w_=>w_.el fun G1 H1 e1 I1 q1=> ?_)
 cases c with
 | true=>exact⟨G1,H1,e1,I1,q1⟩
 | false=>exact thn (hb wh pins s1 τ G1 H1 Q I1 q1) fun _ _ z=>z.ext e1
theorem kU1 (ha:PT3 X a tA):PT3 X (.UnaryOp .Not a pos) (tNot tA):=by
 intro pins s τ G H Q I h
 exact isTrue_not (thn (ha pins s τ G H (fun c G1=>Q (!c) G1) I h) fun c s1 w_=>w_.el fun G1 H1 e1 I1 q1=>⟨G1,H1,e1,I1,q1⟩)
theorem e_one {op}{t:TE3}(h:PE3 X a t):PE3 X (.BoolOp op [a] pos) t:=fun pins s τ G H Q I hw=>BoolOp_one (h pins s τ G H Q I hw)
theorem e_and (ha:PE3 X a ta)(hb:PE3 X (.BoolOp .And (b::rest) pos) tb):PE3 X (.BoolOp .And (a::b::rest) pos) (qJs ta tb):=by
 intro pins s τ G H Q I h
 refine BoolOp_and (thn (ha pins s τ G H _ I h) fun v s1 w_=>w_.el fun x G1 H1 e1 I1 r1 ⟨k,ez,q1⟩=> ?_)
 subst ez
 obtain⟨v',rv',ru'⟩:=r1
 cases (show v'= .bl k from rv');cases ru'
 refine wpAny_truthy_bool ?_
 cases k with
 | true=>exact thn (hb pins s1 τ G1 H1 Q I1 q1) fun _ _ z=>z.ext e1
 | false=>exact⟨.bl false,G1,H1,e1,I1,⟨.bl false,rfl,rfl⟩,q1⟩
theorem kKr (hc:PT3 X c tA)(ha:PE3 X a ta)(hb:PE3 X b tb):PE3 X (.IfExp c a b pos) (tIf tA ta tb):=by
 intro pins s τ G H Q I h
 refine IfExp_ (thn (hc pins s τ G H _ I h) fun k s1 w_=>w_.el fun G1 H1 e1 I1 q1=> ?_)
 cases k with
 | true=>exact thn (ha pins s1 τ G1 H1 Q I1 q1) fun _ _ z=>z.ext e1
 | false=>exact thn (hb pins s1 τ G1 H1 Q I1 q1) fun _ _ z=>z.ext e1
theorem jJh:PA3 X [] tNil:=fun _ _ _ _ G H Q I h=>Calls.spliced_nil ⟨[],G,H,.refl H,I,⟨[],rfl,.nil⟩,h⟩
theorem jJb (ha:PE3 X e te)(hr:PA3 X es t)(hs:starEach (e::es) X.env=(false,eval e X.env)::starEach es X.env:=by rfl):PA3 X (e::es) (jJa te t):=by
 intro pos pins s τ G H Q I h
 rw[hs]
 show wpAny _ _ (spliced ((false,eval e X.env)::backTo pos (starEach es X.env))) _ _ s
 refine Calls.spliced_cons (thn (ha pins s τ G H _ I h) fun u s1 w_=>w_.el fun x G1 H1 e1 I1 r1 q1=> ?_)
 refine thn (hr pos pins s1 τ G1 H1 _ I1 q1) fun us s2 w_=>w_.el fun xs G2 H2 e2 I2 r_ q2=>r_.el fun vs rs rv=> ?_
 obtain⟨v,rr,rvv⟩:=r1.mono e2
 exact⟨x::xs,G2,H2,e1.trans e2,I2,⟨v::vs,⟨v,vs,rfl,rr,rs⟩,.cons rvv rv⟩,q2⟩
theorem jK9 {x1}(h:PA3 X es t):PE3 X (.Tuple es x1 pos) (tTup t):=by
 intro pins s τ G H Q I hq
 refine wpAny_Tuple_spliced (thn (h pos pins s τ G H _ I hq) fun us s1 w_=>w_.el fun xs G1 H1 e1 i_ r_ ⟨z,q⟩=>i_.el fun σ I1 hs1 hg1=>r_.el fun vs rs rv=>⟨by rw[<-rv.length,<-rs.length];exact z,?_⟩)
 have hf:H1 s1.heap.objs.size=none:=I1.hok.fresh (Nat.le_refl _)
 have e2:Ext H1 (upd H1 s1.heap.objs.size (.tup vs)):= .upd (.none hf)
 refine⟨.tup xs,G1,upd H1 s1.heap.objs.size (.tup vs),e1.trans e2,⟨σ,I1.laid (t':=s1.toks) (fun b u e=>Heap.get?_push_of_some _ e) (Nat.le_refl _) ?_,hs1.mono e2,hg1.tupNew hf⟩,⟨.ref s1.heap.objs.size,Rep.tupNew rs hf,rfl⟩,q⟩
 exact⟨by rw[<-rs.length];exact z,us,rv,⟨_,Heap.get?_push_size _ rfl,rfl,_,rfl,rfl⟩⟩
theorem jX2 (h:PA3 X es t):PE3 X (.List es pos) (tLst t):=by
 intro pins s τ G H Q I hq
 refine wpAny_List_spliced (thn (h pos pins s τ G H _ I hq) fun us s1 w_=>w_.el fun xs G1 H1 e1 i_ r_ ⟨z,q⟩=>i_.el fun σ I1 hs1 hg1=>r_.el fun vs rs rv=>⟨by rw[<-rv.length,<-rs.length];exact z,?_⟩)
 have hf:H1 s1.heap.objs.size=none:=I1.hok.fresh (Nat.le_refl _)
 have e2:Ext H1 (upd H1 s1.heap.objs.size (.lst vs)):= .upd (.none hf)
 refine⟨.ref s1.heap.objs.size,gup G1 s1.heap.objs.size (.lst xs),upd H1 s1.heap.objs.size (.lst vs),e1.trans e2,⟨σ,I1.laid (t':=s1.toks) (fun b u e=>Heap.get?_push_of_some _ e) (Nat.le_refl _) ?_,hs1.mono e2,hg1.lstNew rs (.none hf)⟩,⟨.ref s1.heap.objs.size,rfl,rfl⟩,q _ (hg1.fresh hf)⟩
 exact⟨by rw[<-rs.length];exact z,us,0,rv,Heap.get?_push_size _ rfl⟩
theorem e_ix (hr:Ix3 X r)(ha:PE3 X a ta)(hb:PE3 X b tb)(hs:qQd b):PE3 X (.Subscript a b pos) (tOp r ta tb):=by
 intro pins s τ G H Q I h
 exact Subscript_ (bin3 ha hb I h fun v u s2 x y G2 H2 e I2 rx ry q=>thn (hr a b pins s2 τ G2 H2 x y v u Q I2 rx ry q (hs _ _)) fun _ _ z=>z.ext e)
def rIx:R3:=fun x y G Q=>∃xs i t,seqT G x=some xs/\y= .int i/\atI xs i=some t/\Q t G
theorem jU8 {o:Option GO}(h:asL o=some xs):o=some (.lst xs):=by
 cases o with
 | none=>cases h
 | some g=>cases g with
  | lst ys=>cases h;rfl
  | dct _=>cases h
  | dck _=>cases h
  | fdc _=>cases h
  | ins _ _=>cases h
  | exc _=>cases h
theorem jQx {a:V}(hg:GRel K H G)(r:Rep K H x a)(h:seqT G x=some xs):
  ∃p vs,a= .ref p/\(SqL K H p vs\/SqT K H p vs)/\Reps K H xs vs:=by
 cases x with
 | tup ys=>cases h;obtain⟨p,vs,e,h1,h2⟩:=(show ∃p vs,a= .ref p/\H p=some (.tup vs)/\Reps K H xs vs from r);exact⟨p,vs,e,.inr (.of h1),h2⟩
 | scr ys=>cases h;obtain⟨p,vs,e,h1,h2⟩:=(show ∃p vs,a= .ref p/\FrL K H p vs/\Reps K H xs vs from r);exact⟨p,vs,e,.inl h1.sq,h2⟩
 | ref p=>
  obtain⟨vs,h1,h2⟩:=hg.lst (jU8 h)
  exact⟨p,vs,r,.inl (.of h1),h2⟩
 | non=>cases h
 | bl _=>cases h
 | int _=>cases h
 | str _=>cases h
 | ty _=>cases h
theorem ix_any:Ix3 X rIx:=
 Ix3.of (ix_list.or ix_tup) fun H G x y a b Q hg ra rb ⟨xs,i,t,hx,ey,ht,q⟩=>by
  subst ey;cases (show b= .int i from rb)
  obtain⟨p,vs,e,hq,r⟩:=jQx hg ra hx
  subst e
  obtain⟨v,hv,rv⟩:=r.atI ht
  rcases hq with hq | hq
  ·exact .inl ⟨p,vs,i,v,rfl,rfl,hq,hv,t,G,.refl H,hg,rv,q⟩
  ·exact .inr ⟨p,vs,i,v,rfl,rfl,hq,hv,t,G,.refl H,hg,rv,q⟩
theorem jK1 {id:String}{r:List T->Gp->VK3->Prop}{x:Str}(hc:Call3 X (.builtin id) r)(hg:Gl X x)(hm:X.mg x=none)(hv:bootBuiltins x=some (.builtin id))(ha:PA3 X (e::es) t)(hn:x≠"__name__":=by decide)(hdb:(x == ("__debug__":Str))=false:=by decide)(he:starEach (e::es) X.env=(false,eval e X.env)::starEach es X.env:=by rfl)(hpl:(backTo pos (starEach es X.env)).any (·.1)=false:=by rfl):PE3 X (.Call (.Name x p) (e::es) [] pos) (tCB r t):=by
 intro pins s τ G H Q I h
 obtain⟨σ,I0,hs0,hg0⟩:=_root_.id I
 refine wpAny_Call_Name_kw (jUf I0 hg hm hv ?_ hn hdb)
 exact PyProof.Rows.callWith_builtin1 (thn (ha pos pins s τ G H _ I h) fun us s1 w_=>w_.el fun xs G1 H1 e1 I1 r1 q1=>thn (hc pins s1 τ G1 H1 xs us Q I1 r1 q1) fun _ _ z=>z.ext e1) he hpl
theorem jKq {r:List T->Gp->VK3->Prop}{x:Str}(hc:Call3 X (.type T0) r)(hg:Gl X x)(hm:X.mg x=none)(hv:bootBuiltins x=some (.type T0))(ha:PA3 X (e::es) t)(hn:x≠"__name__":=by decide)(hdb:(x == ("__debug__":Str))=false:=by decide)(he:starEach (e::es) X.env=(false,eval e X.env)::starEach es X.env:=by rfl)(hpl:(backTo pos (starEach es X.env)).any (·.1)=false:=by rfl):PE3 X (.Call (.Name x p) (e::es) [] pos) (tCB r t):=by
 intro pins s τ G H Q I h
 obtain⟨σ,I0,hs0,hg0⟩:=_root_.id I
 refine wpAny_Call_Name_kw (jUf I0 hg hm hv ?_ hn hdb)
 exact PyProof.Rows.callWith_type1 (thn (ha pos pins s τ G H _ I h) fun us s1 w_=>w_.el fun xs G1 H1 e1 I1 r1 q1=>thn (hc pins s1 τ G1 H1 xs us Q I1 r1 q1) fun _ _ z=>z.ext e1) he hpl
theorem jVr (h:Reps K H [x] vs):∃v,vs=[v]/\Rep K H x v:=by
 obtain⟨v,ws,rfl,r,e⟩:=h;cases e;exact⟨v,rfl,r⟩
theorem kVd {y:T}(h:Reps K H [x,y] vs):∃v w,vs=[v,w]/\Rep K H x v/\Rep K H y w:=by
 obtain⟨v,ws,rfl,r,w,ws2,rfl,r2,e⟩:=h;cases e;exact⟨v,w,rfl,r,r2⟩
def rLen:List T->Gp->VK3->Prop:=fun xs G Q=>∃x ys,xs=[x]/\seqT G x=some ys/\Q (.int ys.length) G
theorem kX5:Call3 X (.builtin "len") rLen:=
 Call3.of kJo fun H G xs as Q hg ra ⟨x,ys,e,hx,q⟩=>by
  subst e
  obtain⟨v,rfl,rv⟩:=jVr ra
  obtain⟨p,vs,rfl,hq,r⟩:=jQx hg rv hx
  exact⟨p,vs,rfl,hq,.int ys.length,G,.refl H,hg,by rw[r.length];rfl,q⟩
def rAbs:List T->Gp->VK3->Prop:=fun xs G Q=>∃i,xs=[.int i]/\Q (.int (if i<0 then -i else i)) G
theorem c_abs:Call3 X (.builtin "abs") rAbs:=
 Call3.of kZy fun H G xs as Q hg ra ⟨i,e,q⟩=>by
  subst e
  obtain⟨v,rfl,rv⟩:=jVr ra
  cases (show v= .int i from rv)
  exact⟨i,rfl,.int _,G,.refl H,hg,rfl,q⟩
def rMax:List T->Gp->VK3->Prop:=fun xs G Q=>∃i j,xs=[.int i,.int j]/\Q (.int (if j>i then j else i)) G
theorem qK9 (hc:X.calm=true):Call3 X (.builtin "max") rMax:=
 Call3.of (kX1 hc) fun H G xs as Q hg ra ⟨i,j,e,q⟩=>by
  subst e
  obtain⟨v,w,rfl,rv,rw'⟩:=kVd ra
  cases (show v= .int i from rv);cases (show w= .int j from rw')
  exact⟨i,j,rfl,.int _,G,.refl H,hg,rfl,q⟩
def jQt:List T->Gp->VK3->Prop:=fun xs G Q=>∃k,xs=[.bl k]/\Q (.int (if k then 1 else 0)) G
theorem kZz:Call3 X (.type "int") jQt:=
 Call3.of kX2 fun H G xs as Q hg ra ⟨k,e,q⟩=>by
  subst e
  obtain⟨v,rfl,rv⟩:=jVr ra
  cases (show v= .bl k from rv)
  exact .inr ⟨k,rfl,.int _,G,.refl H,hg,rfl,q⟩
def kKc:List T->Gp->VK3->Prop:=fun xs G Q=>∃i j,xs=[.int i,.int j]/\CDiv i j/\Q (.tup [.int (i / j),.int (i%j)]) G
theorem kZ0:Call3 X (.builtin "divmod") kKc:=
 Call3.of kKx fun H G xs as Q hg ra ⟨i,j,e,c,q⟩=>by
  subst e
  obtain⟨v,w,rfl,rv,rw'⟩:=kVd ra
  cases (show v= .int i from rv);cases (show w= .int j from rw')
  exact⟨i,j,rfl,c,fun p hp=>⟨.tup [.int (i / j),.int (i%j)],G,.upd (.none hp),hg.tupNew hp,Rep.tupNew ⟨_,_,rfl,rfl,_,_,rfl,rfl,rfl⟩ hp,q⟩⟩
def jQm:List T->Gp->VK3->Prop:=fun xs G Q=>∃x ys,xs=[x]/\seqT G x=some ys/\Q (.tup ys) G
theorem jX6:Call3 X (.type "tuple") jQm:=
 Call3.of jZl fun H G xs as Q hg ra ⟨x,ys,e,hx,q⟩=>by
  subst e
  obtain⟨v,rfl,rv⟩:=jVr ra
  obtain⟨p,vs,rfl,hq,r⟩:=jQx hg rv hx
  cases x with
  | tup zs=>
   cases hx
   obtain⟨p',vs',e',h1,h2⟩:=(show ∃p' vs',V.ref p= .ref p'/\H p'=some (.tup vs')/\Reps X.K H ys vs' from rv)
   cases e'
   exact⟨p,vs',rfl,.inr ⟨.of h1,.tup ys,G,.refl H,hg,⟨p,vs',rfl,h1,h2⟩,q⟩⟩
  | scr zs=>
   cases hx
   obtain⟨p',vs',e',h1,h2⟩:=(show ∃p' vs',V.ref p= .ref p'/\FrL X.K H p' vs'/\Reps X.K H ys vs' from rv)
   cases e'
   exact⟨p,vs',rfl,.inl ⟨h1.sq,fun l hl=>⟨.tup ys,G,.upd (.none hl),hg.tupNew hl,Rep.tupNew h2 hl,q⟩⟩⟩
  | ref p'=>
   cases (show V.ref p= .ref p' from rv)
   obtain⟨vs',h1,h2⟩:=hg.lst (jU8 hx)
   exact⟨p,vs',rfl,.inl ⟨.of h1,fun l hl=>⟨.tup ys,G,.upd (.none hl),hg.tupNew hl,Rep.tupNew h2 hl,q⟩⟩⟩
  | non=>cases hx
  | bl _=>cases hx
  | int _=>cases hx
  | str _=>cases hx
  | ty _=>cases hx
noncomputable def rCat:R3:=fun x y G Q=>∃p q xs ys,x= .ref p/\y= .ref q/\G p=some (.lst xs)/\G q=some (.lst ys)/\xs.length+ys.length<=sizeLine/\∀l,G l=none->Q (.ref l) (gup G l (.lst (xs++ys)))
noncomputable def rRep:R3:=fun x y G Q=>∃p xs n,x= .ref p/\y= .int n/\G p=some (.lst xs)/\n.toNat * xs.length<=sizeLine/\n<2^62/\ -(2^62)<n/\∀l,G l=none->Q (.ref l) (gup G l (.lst (List.replicate n.toNat xs).flatten))
noncomputable def tyT (G:Gp)(T0:String)(x:T):Prop:=match x with
 | .str _=>T0="str"
 | .int _=>T0="int"
 | .ref p=>(T0="list"/\∃xs,G p=some (.lst xs))\/(T0="dict"/\((∃kvs,G p=some (.dck kvs))\/∃kvs,G p=some (.dct kvs)))
 | _=>False
theorem tyT.of {a:V}(hg:GRel K H G)(r:Rep K H x a)(h:tyT G T0 x):tyV K T0 a H:=by
 cases x with
 | str z=>cases (show a= .str z from r);exact h
 | int z=>cases (show a= .int z from r);exact h
 | ref p=>
  cases (show a= .ref p from r)
  rcases h with ⟨e,xs,h⟩ | ⟨e,h⟩
  ·obtain⟨vs,h1,_⟩:=hg.lst h;exact .inl ⟨e,vs,.of h1⟩
  ·refine .inr (.inr (.inl ⟨e,?_⟩))
   rcases h with ⟨kvs,h⟩ | ⟨kvs,h⟩
   ·obtain⟨ws,h1,_⟩:=hg p _ h;exact .inl ⟨ws,h1⟩
   ·obtain⟨ws,h1,_⟩:=hg p _ h;exact .inr ⟨ws,h1⟩
 | non=>exact False.elim h
 | bl _=>exact False.elim h
 | ty _=>exact False.elim h
 | tup _=>exact False.elim h
 | scr _=>exact False.elim h
def tBM (T0:String)(r:T->List T->Gp->VK3->Prop)(to:TE3)(t:TA3):TE3:=fun τ G Q=>to τ G fun x G1=>tyT G1 T0 x/\t τ G1 fun xs G2=>r x xs G2 Q
theorem e_bm {id:String}{r:T->List T->Gp->VK3->Prop}{o:Expr}{name:Str}{apos cpos:Pos}(pa:PlainAttrs T0)(slot:Slot T0 name id)(hty:typeOf (.builtin id)=pure (.type "method_descriptor"))(hm:Mt3 X id r)(ho:PE3 X o to)(ha:PA3 X (e::es) t)(hbase:attributeBase o name X.env (eval o X.env)=eval o X.env:=by rfl)(hfew:((backTo cpos (starEach (e::es) X.env)).all (fun x=> !x.1)&&(backToKw cpos (keywordEach [] X.env)).all (fun x=>x.1.isSome)
   &&decide ((e::es).length+([]:List Keyword).length+(if ([]:List Keyword).isEmpty then 0 else 1)<30))=true:=by rfl)(hline:(apos.endLine == cpos.line)=true:=by rfl)(hs:starEach (e::es) X.env=(false,eval e X.env)::starEach es X.env:=by rfl)(hplain:(backTo cpos (starEach es X.env)).any (·.1)=false:=by rfl):
  PE3 X (.Call (.Attribute o name apos) (e::es) [] cpos) (tBM T0 r to t):=by
 intro pins s τ G H Q I h
 refine wpAny_Call_method_late hbase hfew hline rfl (thn (ho pins s τ G H _ I h) fun v s1 w_=>w_.el fun x G1 H1 e1 I1 r1 ⟨ty,q1⟩=> ?_)
 obtain⟨σ,I0,hs0,hg0⟩:=_root_.id I1
 obtain⟨a0,ra0,rv0⟩:=_root_.id r1
 obtain⟨h1,h2⟩:=tyV_is I0 rv0 (tyT.of hg0 ra0 ty)
 refine⟨T0,id,pa,slot,hty,h1,h2,?_⟩
 have hA:=ha cpos pins s1 τ G1 H1 _ I1 q1
 rw[hs] at hA ⊢
 refine Calls.callWith_builtin (by show (false||(backTo cpos (starEach es X.env)).any (·.1))=false;rw[hplain]<;>rfl) (Calls.evalArgs_plain ?_)
 exact thn hA fun us s2 w_=>w_.el fun vs G2 H2 e2 I2 r2 q2=>thn (hm pins s2 τ G2 H2 x vs v us Q I2 (r1.mono e2) r2 q2) fun _ _ z=>(z.ext e2).ext e1
def jQn:T->List T->Gp->VK3->Prop:=fun x xs G Q=>∃p ys y,x= .ref p/\xs=[y]/\G p=some (.lst ys)/\ys.length<sizeLine/\Q .non (gup G p (.lst (ys++[y])))
def kYz:T->T->T->Gp->(Gp->Prop)->Prop:=fun o i v G Q=>∃p xs k j,o= .ref p/\i= .int k/\G p=some (.lst xs)/\ixN xs.length k=some j/\Q (gup G p (.lst (xs.set j v)))
theorem s_list:Set3 X kYz:=
 Set3.of kYq fun H G o i v a b c Q hg ra rb rc ⟨p,xs,k,j,eo,ei,hp,hj,q⟩=>by
  subst eo;subst ei
  cases (show a= .ref p from ra);cases (show b= .int k from rb)
  obtain⟨vs,h1,h2⟩:=hg.lst hp
  exact⟨p,vs,k,j,rfl,rfl,h1,by rw[<-h2.length];exact hj,_,.upd (.lst h1),hg.lstNew (h2.set rc j) (.lst h1),q⟩
end
theorem o_cat:Op3 X (binaryOp .Add) rCat:=
 Op3.of op_cat fun H G x y a b Q hg ra rb ⟨p,q,xs,ys,ex,ey,hp,hq,hz,h⟩=>by
  subst ex;subst ey
  cases (show a= .ref p from ra);cases (show b= .ref q from rb)
  obtain⟨vs,h1,h2⟩:=hg.lst hp
  obtain⟨ws,h3,h4⟩:=hg.lst hq
  exact⟨p,q,vs,ws,rfl,rfl,h1,h3,by rw[<-h2.length,<-h4.length];exact hz,fun l hl=>⟨.ref l,_,.upd (.none hl),hg.lstNew (h2.append h4) (.none hl),rfl,h l (hg.fresh hl)⟩⟩
theorem o_rep:Op3 X (binaryOp .Mult) rRep:=
 Op3.of op_rep fun H G x y a b Q hg ra rb ⟨p,xs,n,ex,ey,hp,hz,h1,h2,h⟩=>by
  subst ex;subst ey
  cases (show a= .ref p from ra);cases (show b= .int n from rb)
  obtain⟨vs,h3,h4⟩:=hg.lst hp
  refine⟨p,n,vs,rfl,rfl,h3,by omega,by omega,by rw[<-h4.length,Nat.mul_comm];exact hz,fun l hl=>⟨.ref l,_,.upd (.none hl),hg.lstNew (h4.rep _) (.none hl),rfl,h l (hg.fresh hl)⟩⟩
theorem jQ9:Mt3 X "list.append" jQn:=
 Mt3.of kVr fun H G x xs a as Q hg ra ras ⟨p,ys,y,ex,exs,hp,hz,q⟩=>by
  subst ex;subst exs
  cases (show a= .ref p from ra)
  obtain⟨v,rfl,rv⟩:=jVr ras
  obtain⟨vs,h1,h2⟩:=hg.lst hp
  exact⟨p,vs,v,rfl,rfl,h1,by rw[<-h2.length];exact hz,.non,_,.upd (.lst h1),hg.lstNew (h2.append (.one rv)) (.lst h1),rfl,q⟩
def jJ5:TS3:=fun D τ G=>D.nx τ G
def tSeq (t u:TS3):TS3:=fun D τ G=>t {D with nx:=u D} τ G
def jXb (te:TE3):TS3:=fun D τ G=>te τ G fun _ G1=>D.nx τ G1
def tRet (te:TE3):TS3:=fun D τ G=>te τ G D.rt
def tRetN:TS3:=fun D _ G=>D.rt .non G
def tIfS (c:TT3)(t u:TS3):TS3:=fun D τ G=>c τ G fun b G1=>if b=true then t D τ G1 else u D τ G1
variable {st:Stmt}
section
variable {rest:List Stmt}{t u:TS3}
theorem jJ9:PSs3 X [] jJ5:=fun _ _ τ G H _ I h=>wpAny_execs_nil ⟨τ,G,H,.refl H,I,h⟩
theorem jJe (h1:PS3 X st t)(h2:PSs3 X rest u):PSs3 X (st::rest) (tSeq t u):=by
 intro pins s τ G H D I h
 refine wpAny_execs_cons (thn (h1 pins s τ G H {D with nx:=u D} I h) fun f s1 q=> ?_)
 cases f with
 | next=>
  obtain⟨τ',G',H',e',I',q⟩:=q
  exact thn (h2 pins s1 τ' G' H' D I' q) fun _ _ z=>z.ext e'
 | ret v=>exact q
 | brk=>exact q
 | cont=>exact q
theorem jJm (h1:PS3 X st t):PSs3 X [st] t:=by
 intro pins s τ G H D I h
 refine wpAny_execs_cons (thn (h1 pins s τ G H D I h) fun f s1 q=> ?_)
 cases f with
 | next=>exact wpAny_execs_nil q
 | ret v=>exact q
 | brk=>exact q
 | cont=>exact q
theorem jUv (he:PE3 X e te)(hs:swapsWith e none pos.line X.env=pure false:=by rfl):PS3 X (.Expr e pos) (jXb te):=by
 intro pins s τ G H D I h
 obtain⟨σ,I0,hs0,hg0⟩:=id I
 exact wpAny_Expr_any (thn (he pins s τ G H _ I h) fun v s1 w_=>w_.el fun x G1 H1 e1 I1 r1 q1=>⟨τ,G1,H1,e1,I1,q1⟩) I0.quiet hs
theorem jKn (he:PE3 X e te):PS3 X (.Return (some e) pos) (tRet te):=by
 intro pins s τ G H D I h
 exact wpAny_Return_some (thn (he pins s τ G H _ I h) fun v s1 w_=>w_.el fun x G1 H1 e1 I1 r1 q1=>⟨x,τ,G1,H1,e1,I1,r1,q1⟩)
theorem s_if {a b:List Stmt}{tc:TT3}(hc:PT3 X c tc)(ha:PSs3 X a t)(hb:PSs3 X b u):PS3 X (.If c a b pos) (tIfS tc t u):=by
 intro pins s τ G H D I h
 refine wpAny_If (thn (hc pins s τ G H _ I h) fun d s1 w_=>w_.el fun G1 H1 e1 I1 q1=> ?_)
 cases d with
 | true=>exact thn (ha pins s1 τ G1 H1 D I1 q1) fun _ _ z=>z.ext e1
 | false=>exact thn (hb pins s1 τ G1 H1 D I1 q1) fun _ _ z=>z.ext e1
end
abbrev TG3:=T->St3->Gp->(St3->Gp->Prop)->Prop
abbrev TGs3:=List T->St3->Gp->(St3->Gp->Prop)->Prop
def GP3 (X:Cx)(pins:List (Addr×Obj))(H:Hp)(Q:St3->Gp->Prop)(s':Shared):Prop:=∃ τ' G' H',Ext H H'/\Inv3 X pins τ' G' H' s'/\Q τ' G'
noncomputable def PG3 (X:Cx)(target:Expr)(t:TG3):Prop:=
 ∀(pins:List (Addr×Obj)) (s:Shared) (τ:St3) (G:Gp) (H:Hp) (v:T) (u:Value) (Q:St3->Gp->Prop),Inv3 X pins τ G H s->RU X.K H v u->t v τ G Q->
  wpAny (model X.prog X.w) X.A (assign target X.env u) (fun _ s'=>GP3 X pins H Q s') X.xe s
noncomputable def PGs3 (X:Cx)(ts:List Expr)(t:TGs3):Prop:=
 ∀(pins:List (Addr×Obj)) (s:Shared) (τ:St3) (G:Gp) (H:Hp) (vs:List T) (us:List Value) (Q:St3->Gp->Prop),Inv3 X pins τ G H s->RUs X.K H vs us->t vs τ G Q->
  wpAny (model X.prog X.w) X.A (assignInOrder ((assignEach ts X.env).map (·.2)) us) (fun _ s'=>GP3 X pins H Q s') X.xe s
def jJl (i:Nat):TG3:=fun v τ G Q=>Q (τ.set i (some v)) G
def gNil:TGs3:=fun vs τ G Q=>vs=[]/\Q τ G
def jQ3 (t:TG3)(u:TGs3):TGs3:=fun vs τ G Q=>∃v r,vs=v::r/\t v τ G fun τ' G'=>u r τ' G' Q
def gTup (n:Nat)(t:TGs3):TG3:=fun v τ G Q=>∃xs,v= .tup xs/\xs.length=n/\t xs τ G Q
def gSub (to ti:TE3)(t:T->T->T->Gp->(Gp->Prop)->Prop):TG3:=fun v τ G Q=>to τ G fun o G1=>ti τ G1 fun i G2=>t o i v G2 fun G3=>Q τ G3
def tAsg (te:TE3)(g:TG3):TS3:=fun D τ G=>te τ G fun x G1=>g x τ G1 D.nx
variable {i n:Nat}{tg:Expr}{g:TG3}
theorem jKd {x:Str}(hN:X.N.Nodup)(hi:X.N[i]? =some x:=by rfl)(hx:Loc X.env.scope x:=by first | exact Or.inl rfl | exact Or.inr rfl)(hf:X.fn x=true\/X.env.scope.names.lookup x=some .local:=by first | exact .inl rfl | exact .inr rfl):PG3 X (.Name x pos) (jJl i):=by
 rintro pins s τ G H v u Q ⟨σ,I,hs,hg⟩ ⟨a,ra,rv⟩ h
 exact wpAny_assign_Name (jUt I hN hi hx rv (fun s' I'=>⟨_,G,H,.refl H,⟨_,I',hs.set i ra,hg⟩,h⟩) hf)
theorem kJf:PGs3 X [] gNil:=by
 rintro pins s τ G H vs us Q I ⟨as,r,rv⟩ ⟨e,h⟩
 subst e
 cases (show as=[] from r)
 cases rv
 exact assignInOrder_nil ⟨τ,G,H,.refl H,I,h⟩
theorem jKv {t:TG3}{u:TGs3}(h1:PG3 X e t)(h2:PGs3 X es u)(hs:(assignEach (e::es) X.env).map (·.2)=assign e X.env::(assignEach es X.env).map (·.2):=by rfl):PGs3 X (e::es) (jQ3 t u):=by
 rintro pins s τ G H vs us Q I ⟨as,r,rv⟩ ⟨v,vr,e1,h⟩
 subst e1
 obtain⟨a,ar,rfl,ra,rar⟩:=r
 cases rv with
 | cons q qq=>
  rw[hs]
  refine assignInOrder_cons (thn (h1 pins s τ G H v _ _ I ⟨a,ra,q⟩ h) fun _ s1 ⟨τ1,G1,H1,e1,I1,q1⟩=> ?_)
  exact thn (h2 pins s1 τ1 G1 H1 vr _ Q I1 ⟨ar,Reps.mono e1 _ rar,qq⟩ q1) fun _ s2 ⟨τ2,G2,H2,e2,z⟩=>⟨τ2,G2,H2,e1.trans e2,z⟩
theorem kXd {k:Nat}{t:TGs3}(hc:X.calm=true)(h:PGs3 X es t)(hn:(assignEach es X.env).length=n:=by rfl)(hst:(assignEach es X.env).findIdx? (·.1)=none:=by rfl):PG3 X (.Tuple es k pos) (gTup n t):=by
 rintro pins s τ G H v u Q ⟨σ,I,hs,hg⟩ ⟨a,ra,rv⟩ ⟨xs,ev,hl,hw⟩
 subst ev
 obtain⟨p,vs,e1,h1,r1⟩:=(show ∃p vs,a= .ref p/\H p=some (.tup vs)/\Reps X.K H xs vs from ra)
 subst e1
 cases rv
 obtain⟨its,rv,ht,hz⟩:=I.tuple (.of h1)
 refine assign_Tuple_tuple (I.ok.hd hc) ht (by simp[hn,<-hl,r1.length,rv.length]) hst fun h' hx=> ?_
 have I1:Inv X pins σ H {s with heap:=h'}:=I.kept (t':=s.toks) fun b o e=>hx b o (Nat.ne_of_lt (Heap.lt_size e)) e
 exact h pins _ τ G H xs _ Q ⟨σ,I1,hs,hg⟩ ⟨vs,r1,by simpa using rv⟩ hw
theorem jZd {o i:Expr}{ti:TE3}{t:T->T->T->Gp->(Gp->Prop)->Prop}(ho:PE3 X o to)(hi:PE3 X i ti)(hs:Set3 X t)(ha:∀v,assign (.Subscript o i pos) X.env v=(do
   let ov <-holding [v] (eval o X.env)
   let iv <-holding [v,ov] (eval i X.env)
   standAt pos
   holding [v,ov,iv] (setItem ov iv v)
   release [v,ov,iv] []):=by intro _;rfl):PG3 X (.Subscript o i pos) (gSub to ti t):=by
 intro pins s τ G H v u Q I r h
 rw[ha]
 refine wpAny_bind (wpAny_holding (thn (ho pins s τ G H _ I h) fun ov s1 w_=>w_.el fun x G1 H1 e1 I1 r1 q1=> ?_))
 refine wpAny_bind (wpAny_holding (thn (hi pins s1 τ G1 H1 _ I1 q1) fun iv s2 w_=>w_.el fun y G2 H2 e2 I2 r2 q2=> ?_))
 refine wpAny_bind (wpAny_standAt (wpAny_bind (wpAny_holding (thn (hs pins s2 τ G2 H2 x y v ov iv u _ I2 (r1.mono e2) r2 (r.mono (e1.trans e2)) q2) fun _ s3 ⟨G3,H3,e3,I3,q3⟩=> ?_))))
 exact wpAny_release ⟨τ,G3,H3,(e1.trans e2).trans e3,I3,q3⟩
theorem jYb (he:PE3 X e te)(hg:PG3 X tg g)(hs:swapsWithSole [tg] e pos.line X.env=pure false:=by rfl)(hw:swappedStores [tg] e X.env=pure none:=by rfl)(h1:(assignEach [tg] X.env).map (·.2)=[assign tg X.env]:=by rfl):PS3 X (.Assign [tg] e pos) (tAsg te g):=by
 intro pins s τ G H D I h
 refine wpAny_Assign_stores (thn (he pins s τ G H _ I h) fun v s1 w_=>w_.el fun x G1 H1 e1 I1 r1 q1=> ?_) hs hw
 rw[h1]
 exact thn (hg pins s1 τ G1 H1 x v _ I1 r1 q1) fun _ s2 ⟨τ2,G2,H2,e2,q⟩=>⟨τ2,G2,H2,e1.trans e2,q⟩
theorem jKf {x:Str}{pos':Pos}(hN:X.N.Nodup)(he:PE3 X e te)(hi:X.N[i]? =some x:=by rfl)(hx:Loc X.env.scope x:=by first | exact Or.inl rfl | exact Or.inr rfl)(hs:swapsWith e (some (.Name x pos')) pos.line X.env=pure false:=by rfl)(hf:X.fn x=true\/X.env.scope.names.lookup x=some .local:=by first | exact .inl rfl | exact .inr rfl):
  PS3 X (.Assign [.Name x pos'] e pos) (tAsg te (jJl i)):=by
 intro pins s τ G H D I h
 refine wpAny_Assign_Name (thn (he pins s τ G H _ I h) fun v s1 w_=>w_.el fun y G1 H1 e1 i_ r_ q1=>i_.el fun σ I1 hs1 hg1=>r_.el fun a ra rv=> ?_) hs
 exact jUt I1 hN hi hx rv (fun s2 I2=>⟨_,G1,H1,e1,⟨_,I2,hs1.set i ra,hg1⟩,q1⟩) hf
def tPar (i j:Nat)(ta:TA3):TS3:=fun D τ G=>ta τ G fun vs G1=>∃v w,vs=[v,w]/\D.nx ((τ.set i (some v)).set j (some w)) G1
noncomputable def Items (K:PySem.W.Frag)(H0:Hp)(J:It)(xs:List T)(stay:Gp->Prop):Prop:=
 ∀i H G,Ext H0 H->GRel K H G->stay G->(i<xs.length->J.go i H)/\(xs.length<=i->J.stop i H)/\(i<xs.length->∀x H',J.yld i H x H'->Ext H H'/\GRel K H' G/\∃t,xs[i]? =some t/\Rep K H' t x)
abbrev TI3:=St3->Gp->(List T->(Gp->Prop)->Gp->Prop)->Prop
noncomputable def PIE3 (X:Cx)(pins:List (Addr×Obj))(τ:St3)(H:Hp)(tg:Expr)(R:List T->(Gp->Prop)->Gp->Prop)(itv:Value)(s2:Shared):Prop:=
 ∃(it:Addr) (fp:List Addr) (tn:Nat->Heap->Prop) (J:It) (xs:List T) (stay:Gp->Prop) (G':Gp) (H':Hp),itv= .ref it/\Ext H H'/\Inv3 X pins τ G' H' s2/\Turn X.prog X.w X.K tg J fp it tn/\tn 0 s2.heap/\(∀b∈fp,FpOk X pins H' b)/\
  Items X.K H' J xs stay/\R xs stay G'
noncomputable def PI3 (X:Cx)(tg iter:Expr)(wi:TI3):Prop:=
 ∀(pins:List (Addr×Obj)) (s:Shared) (τ:St3) (G:Gp) (H:Hp) (R:List T->(Gp->Prop)->Gp->Prop),Inv3 X pins τ G H s->wi τ G R->
  wpAny (model X.prog X.w) X.A (eval iter X.env) (fun v s1=>wpAny (model X.prog X.w) X.A (pyIter v) (PIE3 X pins τ H tg R) X.xe s1) X.xe s
noncomputable def tFor (wi:TI3)(g:TG3)(tb:TS3):TS3:=fun D τ G=>wi τ G fun xs stay G1=>∃P:Nat->St3->Gp->Prop,P 0 τ G1/\(∀i τ G,i<=xs.length->P i τ G->stay G)/\
 (∀i x τ G,xs[i]? =some x->P i τ G->g x τ G fun τ2 G2=>tb {D with nx:=P (i+1),ct:=P (i+1),bk:=D.nx} τ2 G2)/\∀ τ G,P xs.length τ G->D.nx τ G
variable {iter:Expr}{wi:TI3}
theorem kQ4 {body:List Stmt}{tb:TS3}(hp:PassesOwn (model X.prog X.w) X.A X.env X.xe)(hc:X.calm=true)(hi:PI3 X tg iter wi)(hg:PG3 X tg g)(hb:PSs3 X body tb)(hs:∀x,foldedSetIterable iter X.env x=pure x:=by intro _;rfl):PS3 X (.For tg iter body [] pos) (tFor wi g tb):=by
 intro pins s τ G H D I h
 refine wpAny_For (thn (hi pins s τ G H _ I h) fun v s1 h1=>thn h1 fun itv s2 h2=> ?_) hs
 obtain⟨it,fp,tn,J,xs,stay,G2,H2,e,eH,I2,T0,st2,f2,IT,P,p0,hstay,turn,fin⟩:=h2
 subst e
 have stat:∀ {H':Hp},(∀b∈fp,H' b=none)->∀b∈fp,FpOk X pins H' b:=fun hn b hb=>⟨hn b hb,(f2 b hb).2⟩
 refine codeAny_forLoop_any (fun n s'=>∃i τ' G' H',n=xs.length-i/\i<=xs.length/\Ext H2 H'/\Inv3 X pins τ' G' H' s'/\tn i s'.heap/\(∀b∈fp,H' b=none)/\P i τ' G') ?_ xs.length ⟨0,τ,G2,H2,rfl,Nat.zero_le _,.refl _,I2,st2,fun b hb=>(f2 b hb).1,p0⟩
 rintro n s3 ⟨i,τ3,G3,H3,en,hi3,e3,⟨σ3,I3,hs3,hg3⟩,st3,fr3,p3⟩
 obtain⟨go,stop,yl⟩:=IT i H3 G3 e3 hg3 (hstay i τ3 G3 hi3 p3)
 by_cases hlt:i<xs.length
 ·refine wpAny_passesOwn hp (thn (T0.item X rfl rfl rfl hc i pins s3 σ3 H3 X.xe I3 (stat fr3) st3 (go hlt)) fun r s4 ⟨u,hr,h4⟩=> ?_)
  subst hr
  refine wpAny_passesOwn hp (thn h4 fun _ s5 ⟨x,H5,I5,r5,y5,st5,fr5⟩=> ?_)
  obtain⟨e5,g5,t,ht,rt⟩:=yl hlt x H5 y5
  have I5':=I5.pinned (stat fr5) (T0.obj _ _ st5)
  refine wpAny_passesOwn hp (thn (hg _ s5 τ3 G3 H5 t u _ ⟨σ3,I5',hs3.mono e5,g5⟩ ⟨x,rt,r5⟩ (turn i t τ3 G3 ht p3)) fun _ s6 ⟨τ6,G6,H6,e6,I6,q6⟩=> ?_)
  refine wpAny_passesOwn hp (thn (hb _ s6 τ6 G6 H6 _ I6 q6) fun f s7 q7=> ?_)
  have e36:Ext H2 H6:=(e3.trans e5).trans e6
  have again:∀ {τ7:St3} {G7:Gp} {H7:Hp},Ext H6 H7->Inv3 X (pins++jUe fp s5.heap) τ7 G7 H7 s7->P (i+1) τ7 G7->
    ∃m,m<n/\∃i τ' G' H',m=xs.length-i/\i<=xs.length/\Ext H2 H'/\Inv3 X pins τ' G' H' s7/\tn i s7.heap/\(∀b∈fp,H' b=none)/\P i τ' G':=fun {τ7 G7 H7} e7 ⟨σ7,I7,hs7,hg7⟩ p7=>by
   refine⟨xs.length-(i+1),by omega,i+1,τ7,G7,H7,rfl,hlt,e36.trans e7,⟨σ7,I7.unpinned,hs7,hg7⟩,T0.keep _ _ _ st5 fun b hb o e=>(I7.pin (b,o) (List.mem_append_right _ (List.mem_append_right _ (jQ7 hb e)))).1,fun b hb=> ?_,p7⟩
   obtain⟨o,e,d⟩:=T0.obj _ _ st5 b hb
   exact (I7.pin (b,o) (List.mem_append_right _ (List.mem_append_right _ (jQ7 hb e)))).2.1
  have un:∀ {τ7:St3} {G7:Gp} {H7:Hp},Inv3 X (pins++jUe fp s5.heap) τ7 G7 H7 s7->Inv3 X pins τ7 G7 H7 s7:=fun ⟨σ7,I7,a,b⟩=>⟨σ7,I7.unpinned,a,b⟩
  cases f with
  | next=>obtain⟨τ7,G7,H7,e7,I7,n7⟩:=q7;exact again e7 I7 n7
  | cont=>obtain⟨τ7,G7,H7,e7,I7,n7⟩:=q7;exact again e7 I7 n7
  | brk=>obtain⟨τ7,G7,H7,e7,I7,q7⟩:=q7;exact⟨τ7,G7,H7,(eH.trans e36).trans e7,un I7,q7⟩
  | ret v=>obtain⟨x7,τ7,G7,H7,e7,I7,r7,q7⟩:=q7;exact⟨x7,τ7,G7,H7,(eH.trans e36).trans e7,un I7,r7,q7⟩
 ·have ei:i=xs.length:=by omega
  refine wpAny_passesOwn hp (thn (T0.done X rfl rfl rfl hc i pins s3 σ3 H3 X.xe I3 (stat fr3) st3 (stop (by omega))) fun r s4 ⟨hr,I4⟩=> ?_)
  subst hr;subst ei
  exact wpAny_execs_nil ⟨τ3,G3,H3,eH.trans e3,⟨σ3,I4,hs3,hg3⟩,fin τ3 G3 p3⟩
def iSeq (tl:TE3):TI3:=fun τ G R=>tl τ G fun x G1=>∃xs,seqT G1 x=some xs/\R xs (fun G'=>seqT G' x=some xs) G1
theorem qKt {l:Expr}{tl:TE3}(hl:PE3 X l tl):PI3 X tg l (iSeq tl):=by
 intro pins s τ G H R I h
 refine thn (hl pins s τ G H _ I h) fun v s1 w_=>w_.el fun x G1 H1 e1 i_ r_ ⟨xs,hx,q⟩=>i_.el fun σ I1 hs1 hg1=>r_.el fun a ra rv=> ?_
 obtain⟨p,vs,e,hq,r⟩:=jQx hg1 ra hx
 subst e
 cases rv
 have fpk:∀b∈[s1.heap.objs.size],FpOk X pins H1 b:=fun b hb=>by
  have e:b=s1.heap.objs.size:=by simpa using hb
  subst e
  exact I1.fpOk (Nat.le_refl _) (I1.hok.fresh (Nat.le_refl _))
 rcases hq with hq | hq
 ·obtain⟨its,rv,pl,hz⟩:=I1.list hq
  refine wpAny_pyIter_list pl.isList ?_
  refine⟨s1.heap.objs.size,[s1.heap.objs.size],_,_,xs,fun G'=>seqT G' x=some xs,G1,H1,rfl,e1,⟨σ,I1.kept (t':=s1.toks) fun b o e=>Heap.get?_push_of_some _ e,hs1,hg1⟩,kUx p _,⟨_,Heap.get?_push_size _ rfl,rfl,rfl⟩,fpk,?_,q⟩
  intro i H2 G2 e2 g2 st
  have ra2:=Rep.mono e2 _ ra
  have now:∃ws,SqL X.K H2 p ws/\Reps X.K H2 xs ws:=by
   cases x with
   | scr ys=>cases hx;obtain⟨p',ws,ep,h1,h2⟩:=(show ∃p' ws,V.ref p= .ref p'/\FrL X.K H2 p' ws/\Reps X.K H2 xs ws from ra2);cases ep;exact⟨ws,h1.sq,h2⟩
   | ref p'=>cases (show V.ref p= .ref p' from ra);obtain⟨ws,h1,h2⟩:=g2.lst (jU8 st);exact⟨ws,.of h1,h2⟩
   | tup ys=>
    obtain⟨p',ws,ep,h1,h2⟩:=(show ∃p' ws,V.ref p= .ref p'/\H1 p'=some (.tup ws)/\Reps X.K H1 ys ws from ra)
    cases ep
    exfalso
    obtain⟨its',_,pl',_⟩:=I1.tuple (.of h1)
    obtain⟨o,n,ho,hc,_⟩:=pl
    obtain⟨o',ho',hc',_⟩:=pl'
    rw[ho] at ho';cases ho'
    rw[hc] at hc';exact absurd hc' (by decide)
   | non=>cases hx
   | bl _=>cases hx
   | int _=>cases hx
   | str _=>cases hx
   | ty _=>cases hx
  obtain⟨ws,h1,h2⟩:=now
  have hlen:=h2.length
  refine⟨fun hi=> ?_,fun hi=>⟨ws,h1,by omega⟩,fun _ y H' ⟨eH,hy⟩=> ?_⟩
  ·exact⟨ws,ws[i]'(by omega),h1,by simp[hlen▸hi]⟩
  ·subst eH
   obtain⟨t,ht,rt⟩:=h2.get' (hy ws h1)
   exact⟨.refl _,g2,t,ht,rt⟩
 ·obtain⟨its,rv,pl,hz⟩:=I1.tuple hq
  refine wpAny_pyIter_tuple (show s1.heap.IsTuple p its.toArray from pl) ?_
  refine⟨s1.heap.objs.size,[s1.heap.objs.size],_,_,xs,fun G'=>seqT G' x=some xs,G1,H1,rfl,e1,⟨σ,I1.kept (t':=s1.toks) fun b o e=>Heap.get?_push_of_some _ e,hs1,hg1⟩,kQz p _,⟨_,Heap.get?_push_size _ rfl,rfl,rfl⟩,fpk,?_,q⟩
  intro i H2 G2 e2 g2 st
  have ra2:=Rep.mono e2 _ ra
  have now:∃ws,H2 p=some (.tup ws)/\Reps X.K H2 xs ws:=by
   cases x with
   | tup ys=>cases hx;obtain⟨p',ws,ep,h1,h2⟩:=(show ∃p' ws,V.ref p= .ref p'/\H2 p'=some (.tup ws)/\Reps X.K H2 xs ws from ra2);cases ep;exact⟨ws,h1,h2⟩
   | scr ys=>
    obtain⟨p',ws,ep,h1,h2⟩:=(show ∃p' ws,V.ref p= .ref p'/\FrL X.K H1 p' ws/\Reps X.K H1 ys ws from ra)
    cases ep
    exfalso
    obtain⟨its',_,pl',_⟩:=I1.list h1.sq
    obtain⟨o,n,ho,hc,_⟩:=pl'
    obtain⟨o',ho',hc',_⟩:=pl
    rw[ho] at ho';cases ho'
    rw[hc] at hc';exact absurd hc' (by decide)
   | ref p'=>
    cases (show V.ref p= .ref p' from ra)
    obtain⟨ws,h1,h2⟩:=hg1.lst (jU8 hx)
    exfalso
    obtain⟨its',_,pl',_⟩:=I1.list (.of h1)
    obtain⟨o,n,ho,hc,_⟩:=pl'
    obtain⟨o',ho',hc',_⟩:=pl
    rw[ho] at ho';cases ho'
    rw[hc] at hc';exact absurd hc' (by decide)
   | non=>cases hx
   | bl _=>cases hx
   | int _=>cases hx
   | str _=>cases hx
   | ty _=>cases hx
  obtain⟨ws,h1,h2⟩:=now
  have hlen:=h2.length
  refine⟨fun hi=> ?_,fun hi=>⟨ws,.of h1,by omega⟩,fun _ y H' ⟨eH,hy⟩=> ?_⟩
  ·exact⟨ws,ws[i]'(by omega),.of h1,by simp[hlen▸hi]⟩
  ·subst eH
   obtain⟨t,ht,rt⟩:=h2.get' (hy ws (.of h1))
   exact⟨.refl _,g2,t,ht,rt⟩
def rngT (lo:Int)(n:Nat):List T:=(List.range n).map fun (k:Nat)=>T.int (lo+k)
def jVm (ta:TA3):TI3:=fun τ G R=>ta τ G fun vs G1=>∃j:Int,vs=[.int j]/\ -(2^62)<=j/\j<2^62/\R (rngT 0 j.toNat) (fun _=>True) G1
theorem kV2 (lo:Int)(n:Nat):Items K H (Itr lo n) (rngT lo n) fun _=>True:=by
 intro i H' G e g _
 have hl:(rngT lo n).length=n:=by simp[rngT]
 refine⟨fun h=>by rw[hl] at h;exact h,fun h=>by rw[hl] at h;exact h,fun hi x H2 ⟨eH,ex⟩=> ?_⟩
 rw[hl] at hi
 subst eH;subst ex
 exact⟨.refl _,g,.int (lo+i),by simp[rngT,hi],rfl⟩
theorem jUa {a:Expr}{ta:TA3}(hg:Gl X "range")(hm:X.mg "range"=none)(ha:PA3 X [a] ta)(hs:starEach [a] X.env=[(false,eval a X.env)]:=by rfl):PI3 X tg (.Call (.Name "range" p) [a] [] pos) (jVm ta):=by
 intro pins s τ G H R I h
 obtain⟨σ,I0,hs0,hg0⟩:=id I
 refine Call_ (jUf I0 hg hm boot_range (PyProof.Rows.callWith_type1 (thn (ha pos pins s τ G H _ I h) fun us s1 w_=>w_.el fun xs G1 H1 e1 i_ r_ q1=>i_.el fun σ I1 hs1 hg1=>r_.el fun as ras rvs=> ?_) hs rfl))
 obtain⟨j,e,q1,q2,q⟩:=q1
 subst e
 obtain⟨v,rfl,rv⟩:=jVr ras
 cases (show v= .int j from rv)
 obtain⟨u,rfl,ru⟩:=rvs.one
 obtain⟨t,rfl⟩:=ru
 refine call_range_1 (thn (kYy (tg:=tg) (R:=fun J H'=>J=Itr 0 j.toNat/\H'=H1) I1 (by omega) (by omega) q1 q2 ⟨by simp,rfl⟩) fun itv s2 z=> ?_)
 obtain⟨it,fp,tn,J,H',ei,I2,T0,st,fk,eJ,eH⟩:=z
 subst eJ;subst eH
 exact⟨it,fp,tn,_,rngT 0 j.toNat,fun _=>True,G1,H',ei,e1,⟨σ,I2,hs1,hg1⟩,T0,st,fk,kV2 0 j.toNat,q⟩
abbrev Sp3:=List T->Gp->VK3->Prop
def dn (K:PySem.W.Frag)(n:Nat)(sp:Sp3):Sp:=fun vs H Q _=>vs.length=n/\∃xs G,Reps K H xs vs/\GRel K H G/\sp xs G fun t G'=>∀v H',Ext H H'->GRel K H' G'->Rep K H' t v->Q v H'
noncomputable def Fn3 (P:Program)(w:World)(K:PySem.W.Frag)(mg:Str->Option Value)(base:Heap)(k:Nat)(f:Addr)(fd:FuncData)(ps:List Str)(sp:Sp3):Prop:=FnOk P w K mg base CX0 k f fd ps (dn K ps.length sp)
def jJr (sp:Sp3)(t:TA3):TE3:=fun τ G Q=>t τ G fun xs G1=>sp xs G1 Q
def Mono (sp:Sp3):Prop:=∀xs G Q Q',(∀t G',Q t G'->Q' t G')->sp xs G Q->sp xs G Q'
def jK3 (N:List Str)(xs:List T):St3:=xs.map some++List.replicate (N.length-xs.length) none
variable {N:List Str}
theorem jZt (r:Reps K H xs vs):SRel K H (start N vs) (jK3 N xs):=by
 have hl:=r.length
 refine⟨by simp[L2.start,jK3,hl],fun i t h=> ?_⟩
 unfold jK3 at h
 unfold L2.start
 by_cases hi:i<xs.length
 ·rw[List.getElem?_append_left (by simpa using hi),List.getElem?_map] at h
  cases e:xs[i]? with
  | none=>rw[e] at h;cases h
  | some x=>
   rw[e] at h;cases h
   obtain⟨v,hv,rv⟩:=r.get e
   exact⟨v,by rw[List.getElem?_append_left (by simp;omega),List.getElem?_map,hv];rfl,rv⟩
 ·rw[List.getElem?_append_right (by simpa using hi),List.getElem?_replicate] at h
  split at h<;>cases h
variable {P:Program}{w:World}
theorem fn3 {mg:Str->Option Value}{base:Heap}{x qual:Str}{f:Addr}{fd:FuncData}{ps:List Str}{k:Nat}{sp:Sp3}(F:Fun K x qual st f fd)(S:FnScope N ps (jJd st))(hbody:∀(cdv:Value) (A:Around) (outer:List Env) (s:Shared) (H:Hp) (E:XK),Room k (A.deeper (envOfC qual (jJd st) s.heap.objs.size f cdv))->
   ∃t,PSs3 (cxOf CX0 P w K mg base N qual (jJd st) f cdv A outer s H E).nox (jJx st) t/\∀xs G Q,sp xs G Q->t {nx:=fun _ G'=>Q .non G',rt:=Q} (jK3 N xs) G):Fn3 P w K mg base (k+1) f fd ps sp:=by
 refine Fun.ok (sp:=dn K ps.length sp) F S (fun vs H Q E h=>h.1) fun cdv A outer s H vs Q E hr hsp=> ?_
 obtain⟨t,ht,hq⟩:=hbody cdv A outer s H E hr
 obtain⟨hl,xs,G,rs,hg,hsp⟩:=hsp
 refine⟨fun D σ H1=>D.nx=(fun _ H'=>Q .non H')/\D.rt=Q/\σ=L2.start N vs/\H1=H,?_,rfl,rfl,rfl,rfl⟩
 rintro pins s1 σ1 H1 D I ⟨e1,e2,e3,e4⟩
 subst e3;subst e4
 have I3:Inv3 (cxOf CX0 P w K mg base N qual (jJd st) f cdv A outer s H1 E).nox pins (jK3 N xs) G H1 s1:=⟨_,I,jZt rs,hg⟩
 refine thn (ht pins s1 _ G H1 _ I3 (hq xs G _ hsp)) fun fl s2 z=> ?_
 cases fl with
 | next=>obtain⟨τ',G',H',e',⟨σ',I',a,b⟩,q⟩:=z;exact⟨σ',H',I',by rw[e1];exact q .non H' e' b rfl⟩
 | brk=>obtain⟨τ',G',H',e',_,q⟩:=z;exact q.elim
 | cont=>obtain⟨τ',G',H',e',_,q⟩:=z;exact q.elim
 | ret u=>obtain⟨x',τ',G',H',e',⟨σ',I',a,b⟩,⟨v,rv,ru⟩,q⟩:=z;exact⟨v,σ',H',I',ru,by rw[e2];exact q v H' e' b rv⟩
mutual
noncomputable def dep:T->Nat
 | .tup xs=>deps xs+1
 | _=>0
noncomputable def deps:List T->Nat
 | []=>0
 | x::xs=>max (dep x) (deps xs)
end
mutual
noncomputable def tree:T->Bool
 | .tup xs=>jKs xs
 | .ref _=>false
 | .scr _=>false
 | .ty _=>false
 | .non=>true
 | .bl _=>true
 | .int _=>true
 | .str _=>true
noncomputable def jKs:List T->Bool
 | []=>true
 | x::xs=>tree x&&jKs xs
end
mutual
noncomputable def eqT:T->T->Bool
 | .non,.non=>true
 | .bl a,.bl b=>a == b
 | .bl a,.int b=>(if a then 1 else 0) == b
 | .int a,.bl b=>a == (if b then 1 else 0)
 | .int a,.int b=>a == b
 | .str a,.str b=>a == b
 | .tup xs,.tup ys=>eqTs xs ys
 | _,_=>false
noncomputable def eqTs:List T->List T->Bool
 | [],[]=>true
 | x::xs,y::ys=>eqT x y&&eqTs xs ys
 | [],_::_=>false
 | _::_,[]=>false
end
mutual
theorem kZs {K:PySem.W.Frag} {H:Hp}:∀(x y:T) {a:V},tree x=true->tree y=true->Rep K H x a->Rep K H y a->eqT x y=true
 | .non,y,a,hx,hy,r,q=>by
  cases (show a= .non from r)
  cases y<;>first | rfl | (exact absurd (show false=true from hy) Bool.false_ne_true) | (cases (show V.non=_ from q)) | (obtain⟨_,_,e,_⟩:=(show ∃c vs,V.non= .ref c/\_ from q);cases e)
 | .bl b,y,a,hx,hy,r,q=>by
  cases (show a= .bl b from r)
  cases y with
  | bl c=>cases (show V.bl b=V.bl c from q);simp[eqT]
  | tup ys=>obtain⟨_,_,e,_⟩:=(show ∃c vs,V.bl b= .ref c/\_ from q);cases e
  | non=>cases (show V.bl b= .non from q)
  | int c=>cases (show V.bl b= .int c from q)
  | str c=>cases (show V.bl b= .str c from q)
  | _=>exact absurd (show false=true from hy) Bool.false_ne_true
 | .int b,y,a,hx,hy,r,q=>by
  cases (show a= .int b from r)
  cases y with
  | int c=>cases (show V.int b=V.int c from q);simp[eqT]
  | tup ys=>obtain⟨_,_,e,_⟩:=(show ∃c vs,V.int b= .ref c/\_ from q);cases e
  | non=>cases (show V.int b= .non from q)
  | bl c=>cases (show V.int b= .bl c from q)
  | str c=>cases (show V.int b= .str c from q)
  | _=>exact absurd (show false=true from hy) Bool.false_ne_true
 | .str b,y,a,hx,hy,r,q=>by
  cases (show a= .str b from r)
  cases y with
  | str c=>cases (show V.str b=V.str c from q);simp[eqT]
  | tup ys=>obtain⟨_,_,e,_⟩:=(show ∃c vs,V.str b= .ref c/\_ from q);cases e
  | non=>cases (show V.str b= .non from q)
  | bl c=>cases (show V.str b= .bl c from q)
  | int c=>cases (show V.str b= .int c from q)
  | _=>exact absurd (show false=true from hy) Bool.false_ne_true
 | .tup xs,y,a,hx,hy,r,q=>by
  obtain⟨p,vs,e,h1,h2⟩:=(show ∃p vs,a= .ref p/\H p=some (.tup vs)/\Reps K H xs vs from r)
  subst e
  cases y with
  | tup ys=>
   obtain⟨p',vs',e',h1',h2'⟩:=(show ∃p' vs',V.ref p= .ref p'/\H p'=some (.tup vs')/\Reps K H ys vs' from q)
   cases e'
   rw[h1] at h1';cases h1'
   exact kJj xs ys (show jKs xs=true from hx) (show jKs ys=true from hy) h2 h2'
  | non=>cases (show V.ref p= .non from q)
  | bl c=>cases (show V.ref p= .bl c from q)
  | int c=>cases (show V.ref p= .int c from q)
  | str c=>cases (show V.ref p= .str c from q)
  | _=>exact absurd (show false=true from hy) Bool.false_ne_true
 | .ref _,_,_,hx,_,_,_=>absurd (show false=true from hx) Bool.false_ne_true
 | .scr _,_,_,hx,_,_,_=>absurd (show false=true from hx) Bool.false_ne_true
 | .ty _,_,_,hx,_,_,_=>absurd (show false=true from hx) Bool.false_ne_true
theorem kJj {K:PySem.W.Frag} {H:Hp}:∀(xs ys:List T) {vs:List V},jKs xs=true->jKs ys=true->Reps K H xs vs->Reps K H ys vs->eqTs xs ys=true
 | [],ys,_,_,_,r,q=>by
  cases r
  cases ys with
  | nil=>rfl
  | cons y ys=>obtain⟨_,_,e,_⟩:=q;cases e
 | x::xs,ys,_,hx,hy,⟨v,ws,e,r1,r2⟩,q=>by
  subst e
  cases ys with
  | nil=>cases q
  | cons y ys=>
   obtain⟨v',ws',e',q1,q2⟩:=q
   cases e'
   have hx':tree x=true/\jKs xs=true:=by simpa[jKs] using hx
   have hy':tree y=true/\jKs ys=true:=by simpa[jKs] using hy
   show (eqT x y&&eqTs xs ys)=true
   rw[kZs x y hx'.1 hy'.1 r1 q1,kJj xs ys hx'.2 hy'.2 r2 q2]
   rfl
end
section
def rSub:R3:=rI0 fun i j=> .int (i-j)
def rMod:R3:=rI (fun _ j=>0<j) fun i j=> .int (i%j)
def rFdiv:R3:=rI CDiv fun i j=> .int (i / j)
def rPow:R3:=rI CPow fun i j=> .int (i^j.toNat)
def rLt:R3:=rI0 fun i j=> .bl (decide (i<j))
def rGt:R3:=rI0 fun i j=> .bl (decide (j<i))
def rGe:R3:=rI0 fun i j=> .bl (decide (j<=i))
def rIsN:R3:=fun x y G Q=>y= .non/\Q (.bl (kJd x)) G
def jZy:R3:=fun x y G Q=>y= .non/\Q (.bl (!kJd x)) G
def kY1:R3:=fun x y G Q=>∃xs ys,x= .tup xs/\y= .tup ys/\xs≠[]/\xs.length+ys.length<=sizeLine/\Q (.tup (xs++ys)) G
theorem o_catT:Op3 X (binaryOp .Add) kY1:=
 Op3.of qJ7 fun H G x y a b Q hg ra rb ⟨xs,ys,ex,ey,hx,hz,q⟩=>by
  subst ex;subst ey
  obtain⟨p,vs,e1,h1,h2⟩:=(show ∃p vs,a= .ref p/\H p=some (.tup vs)/\Reps X.K H xs vs from ra)
  obtain⟨p',ws,e2,h3,h4⟩:=(show ∃p vs,b= .ref p/\H p=some (.tup vs)/\Reps X.K H ys vs from rb)
  subst e1;subst e2
  have l1:=h2.length
  have l2:=h4.length
  refine⟨p,p',vs,ws,rfl,rfl,.of h1,.of h3,fun z=>hx ?_,by omega,fun z=> ?_,fun z l hl=> ?_⟩
  ·rw[z] at l1;exact List.length_eq_zero_iff.mp l1
  ·rw[z] at l2
   have:ys=[]:=List.length_eq_zero_iff.mp l2
   subst this
   exact⟨.tup (xs++[]),G,.refl H,hg,by rw[List.append_nil];exact ra,q⟩
  ·exact⟨.tup (xs++ys),G,.upd (.none hl),hg.tupNew hl,Rep.tupNew (h2.append h4) hl,q⟩
def rAddI:R3:=rI0 fun i j=> .int (i+j)
def rAddA:R3:=fun x y G Q=>rAddI x y G Q\/rCat x y G Q\/kY1 x y G Q
theorem o_addA:Op3 X (binaryOp .Add) rAddA:=o_add.or (o_cat.or o_catT)
def rMulI:R3:=rI CMul fun i j=> .int (i*j)
def rMulA:R3:=fun x y G Q=>rMulI x y G Q\/rRep x y G Q
theorem o_mulA:Op3 X (binaryOp .Mult) rMulA:=o_mul.or o_rep
def rNeg:T->Gp->VK3->Prop:=fun x G Q=>∃i,x= .int i/\Q (.int (-i)) G
theorem u_neg:Un3 X (unaryOp .USub) rNeg:=
 Un3.of un_neg fun H G x a Q hg ra ⟨i,e,q⟩=>by
  subst e;cases (show a= .int i from ra)
  exact⟨i,rfl,.int (-i),G,.refl H,hg,rfl,q⟩
theorem jJp (b:Expr)(h:behindInMarks op b=false:=by first | exact nomark _ | with_unfolding_all rfl):behindInMarks op b=false:=h
variable {a:Expr}
theorem kJz {op':CmpOp}(ho:Op3 X (compareOp op) r)(ho':Op3 X (compareOp op') r')(ha:PE3 X a ta)(hb:PE3 X b tb)(hc:PE3 X c tc)(hm:lastMarks [op,op'] [b,c]=false:=by with_unfolding_all rfl):PT3 X (.Compare a [op,op'] [b,c] pos) (jJq (jYj r r' ta tb tc)):=by
 intro pins s τ G H Q I h
 refine isTrue_chain (thn (ha pins s τ G H _ I h) fun v s1 w_=>w_.el fun x G1 H1 e1 I1 r1 q1=>test_link (thn (hb pins s1 τ G1 H1 _ I1 q1) fun u s2 ⟨y,G2,H2,e2,I2,r2,q2⟩=>
  thn (ho pins s2 τ G2 H2 x y v u _ I2 (r1.mono e2) r2 q2) fun d s3 w_=>w_.el fun z G3 H3 e3 I3 r_ ⟨k,e,q3⟩=>r_.el fun v' rv' ru'=> ?_)) hm
 subst e
 cases (show v'= .bl k from rv');cases ru'
 refine wpAny_truthy_bool ?_
 cases k with
 | false=>
  obtain⟨k',e',q'⟩:=q3
  cases e'
  exact ite_ff ⟨G3,H3,(e1.trans e2).trans e3,I3,q'⟩
 | true=>
  refine ite_tt (test_last (thn (hc pins s3 τ G3 H3 _ I3 q3) fun w' s4 w_=>w_.el fun z' G4 H4 e4 I4 r4 q4=>thn (ho' pins s4 τ G4 H4 y z' u w' _ I4 (r2.mono (e3.trans e4)) r4 q4) fun d' s5 w_=>w_.el fun z2 G5 H5 e5 I5 r_ ⟨k2,e2',q5⟩=>r_.el fun v2 rv2 ru2=> ?_))
  subst e2'
  cases (show v2= .bl k2 from rv2);cases ru2
  exact wpAny_truthy_bool ⟨G5,H5,(((e1.trans e2).trans e3).trans e4).trans e5,I5,q5⟩
mutual
noncomputable def td:T->PyData
 | .tup xs=> .tuple (tds xs)
 | .int i=> .int i
 | .bl b=> .bool b
 | .str x=> .str x
 | .non=> .none
 | .ref _=> .none
 | .scr _=> .none
 | .ty _=> .none
noncomputable def tds:List T->List PyData
 | []=>[]
 | x::xs=>td x::tds xs
end
def eqOk (x:T):Bool:=tree x&&(td x).canLay0&&decide ((td x).depth<=50)
def kKp (xs:List T):Bool:=jKs xs&&PyData.canLayAll0 (tds xs)&&decide ((PyData.list (tds xs)).depth<=50)
noncomputable def eqG (G:Gp)(x y:T):Option Bool:=match x,y with
 | .ref p,.ref q=>match G p,G q with
  | some (.lst xs),some (.lst ys)=>if kKp xs=true/\kKp ys=true then some (eqTs xs ys) else none
  | _,_=>none
 | _,_=>if eqOk x=true/\eqOk y=true then some (eqT x y) else none
def rEqA:R3:=fun x y G Q=>∃b,eqG G x y=some b/\Q (.bl b) G
def rNeA:R3:=fun x y G Q=>∃b,eqG G x y=some b/\Q (.bl (!b)) G
noncomputable def truT (G:Gp):T->Option Bool
 | .non=>some false
 | .bl b=>some b
 | .int i=>some (i != 0)
 | .tup xs=>some (!xs.isEmpty)
 | .ref p=>match G p with
  | some (.lst xs)=>some (!xs.isEmpty)
  | some (.dck kvs)=>some (!kvs.isEmpty)
  | _=>none
 | _=>none
def rTru:T->Gp->(Bool->Gp->Prop)->Prop:=fun x G Q=>∃b,truT G x=some b/\Q b G
end
variable {h':Heap}{fp:List Addr}
theorem jXa {t':Nat}(I:Inv X pins σ H s)(k:∀b o,b∉fp->s.heap.get? b=some o->h'.get? b=some o)(hf:∀b∈fp,FpOk X pins H b):Inv X pins σ H {s with heap:=h',toks:=t'}:=by
 have nit:∀b u,H b=some u->b∉fp:=fun b u e z=>by rw[(hf b z).1] at e;cases e
 refine I.step (g':=s.gens) (d':=s.drawn) (ch:=fp) (fun b hb=>⟨(hf b hb).2.2.2.1,(hf b hb).2.1,(hf b hb).2.2.2.2.1,(hf b hb).2.2.2.2.2⟩) (fun b o _ _ hc e _=>k b o hc e) (fun b o _ _ hc e _=>⟨o.slots,k b o hc e⟩) (fun _ _ _ _ n=>n)
  (fun b o hc e=>⟨o,k b o hc e⟩) (fun _ _ e=>e) (fun _ _ _ e=>e) (fun b ps e=>⟨#[],by rw[e];simp⟩) (fun m hm=> ?_) (fun b u e=> ?_) I.bare
 ·obtain⟨o,es,ep,ho,r⟩:=hm
  exact⟨o,es,ep,k _ o (fun z=>(hf _ z).2.1 rfl) ho,r⟩
 ·refine (I.hok b u e).stay (fun c v hc q=>k c v ?_ q) (fun _ q=>q) fun _ _ q=>q
  rcases hc with z | z
  ·rw[z];exact nit b u e
  ·exact nit c _ z
theorem jV9 {t':Nat}{p:Addr}{us:List Value}(I:Inv X pins σ H s)(k:∀b o,b∉fp->s.heap.get? b=some o->h'.get? b=some o)(hf:∀b∈fp,FpOk X pins H b)(hp:s.heap.objs.size<=p)(ht:TupD h' p us.toArray)(r:Vals vs us)(hz:vs.length<=sizeLine):Inv X pins σ (upd H p (.tup vs)) {s with heap:=h',toks:=t'}:=by
 have hn:H p=none:=I.hok.fresh hp
 have nit:∀b u,H b=some u->b∉fp:=fun b u e z=>by rw[(hf b z).1] at e;cases e
 have old:∀b o,s.heap.get? b=some o->b≠p:=fun b o e=>Nat.ne_of_lt (Nat.lt_of_lt_of_le (Heap.lt_size e) hp)
 have tr:∀b u,H b=some u->b≠p:=fun b u e z=>by rw[z,hn] at e;cases e
 refine I.step (g':=s.gens) (d':=s.drawn) (ch:=fp) (fun b hb=>⟨(hf b hb).2.2.2.1,(hf b hb).2.1,(hf b hb).2.2.2.2.1,(hf b hb).2.2.2.2.2⟩) (fun b o _ _ hc e _=>k b o hc e) (fun b o _ _ hc e _=>⟨o.slots,k b o hc e⟩) (fun b o _ e n=>by rw[jJk (old b o e)];exact n)
  (fun b o hc e=>⟨o,k b o hc e⟩) (fun b _ e=>by rw[jJk (tr b _ e)];exact e) (fun b _ _ e=>by rw[jJk (tr b _ e)];exact e) (fun b ps e=>⟨#[],by rw[jJk (tr b _ e),e];simp⟩) (fun m hm=> ?_) (fun b u e=> ?_) I.bare
 ·obtain⟨o,es,ep,ho,r⟩:=hm
  exact⟨o,es,ep,k _ o (fun z=>(hf _ z).2.1 rfl) ho,r⟩
 ·by_cases hb:b=p
  ·subst hb
   rw[jJn] at e
   cases e
   exact⟨hz,us,r,ht⟩
  ·rw[jJk hb] at e
   refine (I.hok b u e).stay (fun c v hc q=>k c v ?_ q) (fun c q=>by rw[jJk (tr c _ q)];exact q) fun c _ q=>by rw[jJk (tr c _ q)];exact q
   rcases hc with z | z
   ·rw[z];exact nit b u e
   ·exact nit c _ z
noncomputable def Ite (K:PySem.W.Frag)(a:Addr):It:=
 ⟨fun i H=>∃xs x,SqL K H a xs/\xs[i]? =some x,fun i H x H'=>∃p y,H p=none/\x= .ref p/\(∀xs,SqL K H a xs->xs[i]? =some y)/\H'=upd H p (.tup [.int i,y]),fun i H=>∃xs,SqL K H a xs/\xs.length<=i⟩
variable {elts:List Expr}
theorem kUy {k:Nat}(a e it:Addr)(hei:e≠it):
  Turn P w K (.Tuple elts k pos) (Ite K a) [e,it] e (fun i h=>(∃old,IsEnum h e it i old)/\h.IsListIter it a i) where
 mem:=by simp
 obj:=fun i h ⟨⟨old,h1⟩,h2⟩ b hb=>by
  have hb':b=e\/b=it:=by simpa using hb
  rcases hb' with z | z
  ·subst z;exact⟨_,h1,fun v z=>nomatch (show Data.fields _=Data.cell v from z)⟩
  ·subst z
   obtain⟨o,e2,c,d⟩:=h2
   exact⟨o,e2,fun v z=>by rw[d] at z;cases z⟩
 keep:=fun i h h' ⟨⟨old,h1⟩,h2⟩ kp=>⟨⟨old,kp e (by simp) _ h1⟩,h2.at fun o q=>kp it (by simp) o q⟩
 item:=by
  rintro X hP hw hK hc i pins s σ H E I hf ⟨⟨old,he⟩,hit⟩ hg
  subst hP hw hK
  obtain⟨xs,x,hq,hx⟩:=hg
  obtain⟨its,rv,p,hz⟩:=I.list hq
  obtain⟨u,hu,ru⟩:=rv.get hx
  refine wpAny_pyNext_enum_item he hit p.isList (x:=u) (by simpa using hu) hei fun h1 ho hit1 hT hsz hk=> ?_
  refine⟨_,rfl,wpAny_letOwnedTupleGo_enum ho fun h2 he2 hs2=> ?_⟩
  have hel:e<s.heap.objs.size:=Heap.lt_size he
  have hp2:∀b o,b∉[e,it]->s.heap.get? b=some o->h2.get? b=some o:=fun b o hb q=>by
   have hb1:b≠e:=fun z=>hb (by simp[z])
   have hb2:b≠it:=fun z=>hb (by simp[z])
   exact (hs2.2 b hb1).trans (hk b o hb1 hb2 q)
  have hT2:h2.get? s.heap.objs.size=some {cls:= .type "tuple",data:= .seq #[.int i s.toks,u]}:=(hs2.2 _ (Nat.ne_of_gt hel)).trans hT
  have I2:=jV9 (t':=s.toks+1) (h':=h2) (p:=s.heap.objs.size) (vs:=[.int i,x]) (us:=[.int i s.toks,u]) I hp2 hf (Nat.le_refl _) ⟨_,hT2,rfl,_,rfl,rfl⟩ (.cons ⟨_,rfl⟩ (.cons ru .nil)) (by show 2<=sizeLine;decide)
  refine⟨.ref s.heap.objs.size,_,I2,rfl,⟨_,x,I.hok.fresh (Nat.le_refl _),rfl,fun ys hy=>by rw[I.list_inj hy hq];exact hx,rfl⟩,⟨⟨u,by simpa using he2⟩,hit1.at fun o q=>(hs2.2 it hei.symm).trans q⟩,fun b hb=> ?_⟩
  have hbs:∃o,s.heap.get? b=some o:=by
   have hb':b=e\/b=it:=by simpa using hb
   rcases hb' with z | z
   ·subst z;exact⟨_,he⟩
   ·subst z;obtain⟨o,q,_⟩:=hit;exact⟨o,q⟩
  obtain⟨o,q⟩:=hbs
  rw[jJk (Nat.ne_of_lt (Heap.lt_size q))]
  exact (hf b hb).1
 done:=by
  rintro X hP hw hK hc i pins s σ H E I hf ⟨⟨old,he⟩,hit⟩ hg
  subst hP hw hK
  obtain⟨xs,hq,hx⟩:=hg
  obtain⟨its,rv,p,hz⟩:=I.list hq
  have hl:=rv.length
  exact wpAny_pyNext_enum_end (I.ok.hd hc) he hit p.isList (by simp;omega) fun h1 hx1=>⟨rfl,jXa (t':=s.toks) I (fun b o hb q=>hx1 b o (fun z=>hb (by simp[z])) q) hf⟩
 self:=fun _ _ _ _ _ ⟨⟨old,he⟩,_⟩ h=>wpAny_pyIter_enum he h
def numT (xs:List T):List T:=(List.range xs.length).map fun (i:Nat)=>T.tup [.int i,xs.getD i .non]
theorem kQd (h:xs[i]? =some x):(numT xs)[i]? =some (.tup [.int i,x]):=by
 have hi:i<xs.length:=by
  rcases Nat.lt_or_ge i xs.length with z | z
  ·exact z
  ·rw[List.getElem?_eq_none z] at h;cases h
 have hx:xs[i]=x:=(List.getElem?_eq_some_iff.mp h).2
 simp[numT,hi,List.getD,hx]
theorem jQp:(numT xs).length=xs.length:=by simp[numT]
def jVk (G:Gp):T->Option (List T)
 | .ref p=>asL (G p)
 | .scr xs=>some xs
 | _=>none
theorem jQr {a:V}(hg:GRel K H G)(r:Rep K H x a)(h:jVk G x=some xs):∃p vs,a= .ref p/\SqL K H p vs/\Reps K H xs vs:=by
 cases x with
 | scr ys=>cases h;obtain⟨p,vs,e,h1,h2⟩:=(show ∃p vs,a= .ref p/\FrL K H p vs/\Reps K H xs vs from r);exact⟨p,vs,e,h1.sq,h2⟩
 | ref p=>
  obtain⟨vs,h1,h2⟩:=hg.lst (jU8 h)
  exact⟨p,vs,r,.of h1,h2⟩
 | tup _=>cases h
 | non=>cases h
 | bl _=>cases h
 | int _=>cases h
 | str _=>cases h
 | ty _=>cases h
def qKu (ta:TA3):TI3:=fun τ G R=>ta τ G fun vs G1=>∃x xs,vs=[x]/\jVk G1 x=some xs/\R (numT xs) (fun G'=>jVk G' x=some xs) G1
theorem i_enum {k:Nat}{tpos:Pos}{a:Expr}{ta:TA3}(hg:Gl X "enumerate")(hm:X.mg "enumerate"=none)(hv:bootBuiltins "enumerate"=some (.type "enumerate"))(ha:PA3 X [a] ta)(hs:starEach [a] X.env=[(false,eval a X.env)]:=by rfl):
  PI3 X (.Tuple elts k tpos) (.Call (.Name "enumerate" p) [a] [] pos) (qKu ta):=by
 intro pins s τ G H R I h
 obtain⟨σ0,I0,hs0,hg0⟩:=id I
 refine Call_ (jUf I0 hg hm hv (PyProof.Rows.callWith_type1 (thn (ha pos pins s τ G H _ I h) fun us s1 w_=>w_.el fun xs' G1 H1 e1 i_ r_ q1=>i_.el fun σ I1 hs1 hg1=>r_.el fun as ras rvs=> ?_) hs rfl))
 obtain⟨x,xs,e,hx,q⟩:=q1
 subst e
 obtain⟨v,rfl,rv⟩:=jVr ras
 obtain⟨u,rfl,ru⟩:=rvs.one
 obtain⟨pa,vs,rfl,hq,r⟩:=jQr hg1 rv hx
 cases ru
 obtain⟨its,rvv,pl,hz⟩:=I1.list hq
 refine call_enumerate_list pl.isList fun h1 he hit hsz hk=> ?_
 have I2:Inv X pins σ H1 {s1 with heap:=h1}:=I1.kept (t':=s1.toks) hk
 refine wpAny_pyIter_enum (Q:=PIE3 X pins τ H (.Tuple elts k tpos) R) he ?_
 have fr:∀b∈[s1.heap.objs.size+1,s1.heap.objs.size],FpOk X pins H1 b:=fun b hb=>by
  have hb':b=s1.heap.objs.size+1\/b=s1.heap.objs.size:=by simpa using hb
  have hle:s1.heap.objs.size<=b:=by omega
  exact I1.fpOk hle (I1.hok.fresh hle)
 refine⟨s1.heap.objs.size+1,[s1.heap.objs.size+1,s1.heap.objs.size],_,_,numT xs,fun G'=>jVk G' x=some xs,G1,H1,rfl,e1,⟨σ,I2,hs1,hg1⟩,kUy pa _ _ (Nat.succ_ne_self _),⟨⟨.none,he⟩,hit⟩,fr,?_,q⟩
 intro i H2 G2 e2 g2 st
 obtain⟨pb,ws,eb,h1,h2⟩:=jQr g2 (Rep.mono e2 _ rv) st
 cases eb
 have hlen:=h2.length
 refine⟨fun hi=> ?_,fun hi=>⟨ws,h1,by rw[jQp] at hi;omega⟩,fun hi y H' ⟨pp,z,hn,ey,hy,eH⟩=> ?_⟩
 ·rw[jQp] at hi
  exact⟨ws,ws[i]'(by omega),h1,by simp[hlen▸hi]⟩
 ·subst ey;subst eH
  obtain⟨t,ht,rt⟩:=h2.get' (hy ws h1)
  exact⟨.upd (.none hn),g2.tupNew hn,_,kQd ht,Rep.tupNew ⟨_,_,rfl,rfl,_,_,rfl,rt,rfl⟩ hn⟩
noncomputable def clGo (env:Env):List (Str×NameKind)->List (Str×Addr)->Option (List (Str×Addr))
 | [],cs=>some cs
 | (n,k)::r,cs=>if (k == .free)=true then (match env.cells.lookup n with | some c=>clGo env r ((n,c)::cs) | none=>none) else clGo env r cs
variable {scope:Scope}{env:Env}
theorem jYp {cl:List (Str×Addr)}(h:clGo env scope.names []=some cl):closureFor scope env=pure cl:=by
 unfold closureFor
 have go:∀(names:List (Str×NameKind)) (cs:List (Str×Addr)),clGo env names cs=some cl->
   (forIn names cs fun (x:Str×NameKind) (r:List (Str×Addr))=>(match x with | (nm,kd)=>if (kd == .free)=true then cellOf env nm >>= fun a=>pure (ForInStep.yield ((nm,a)::r)) else pure (ForInStep.yield r):Sem (ForInStep (List (Str×Addr)))))=pure cl:=by
  intro names
  induction names with
  | nil=>intro cs e;cases e;rfl
  | cons x r ih=>
   obtain⟨n,k⟩:=x
   intro cs e
   unfold clGo at e
   rw[List.forIn_cons]
   by_cases hk:(k == NameKind.free)=true
   ·rw[if_pos hk] at e
    cases hc:env.cells.lookup n with
    | none=>rw[hc] at e;cases e
    | some c=>
     rw[hc] at e
     have hco:cellOf env n=pure c:=by unfold cellOf;rw[hc]
     simp only[hk,if_true,hco,pure_bind]
     exact ih _ e
   ·rw[if_neg hk] at e
    simp only[hk,pure_bind,if_false,Bool.false_eq_true]
    exact ih _ e
 have:=go scope.names [] h
 simpa using this
theorem jV6 {env:Env} {cl:List (Str×Addr)}:∀ {names:List (Str×NameKind)} {cs:List (Str×Addr)},clGo env names cs=some cl->(∀n c,cs.lookup n=some c->env.cells.lookup n=some c)->∀n c,cl.lookup n=some c->env.cells.lookup n=some c
 | [],cs,e,h=>by cases e;exact h
 | (n,k)::r,cs,e,h=>by
  unfold clGo at e
  by_cases hk:(k == NameKind.free)=true
  ·rw[if_pos hk] at e
   cases hc:env.cells.lookup n with
   | none=>rw[hc] at e;cases e
   | some c=>
    rw[hc] at e
    refine jV6 e fun m d q=> ?_
    rw[List.lookup_cons] at q
    by_cases hm:(m == n)=true
    ·rw[hm] at q;cases q;rw[eq_of_beq hm];exact hc
    ·simp only[hm] at q;exact h m d q
  ·rw[if_neg hk] at e
   exact jV6 e h
theorem jX5 {env:Env} {cl:List (Str×Addr)} {m:Str}:∀ {names:List (Str×NameKind)} {cs:List (Str×Addr)},clGo env names cs=some cl->(∃c,cs.lookup m=some c)->∃c,cl.lookup m=some c
 | [],cs,e,h=>by cases e;exact h
 | (n,k)::r,cs,e,h=>by
  unfold clGo at e
  by_cases hk:(k == NameKind.free)=true
  ·rw[if_pos hk] at e
   cases hc:env.cells.lookup n with
   | none=>rw[hc] at e;cases e
   | some c=>
    rw[hc] at e
    refine jX5 e ?_
    rw[List.lookup_cons]
    by_cases hm:(m == n)=true
    ·rw[hm];exact⟨_,rfl⟩
    ·simp only[hm];exact h
  ·rw[if_neg hk] at e
   exact jX5 e h
theorem jV7 {env:Env} {cl:List (Str×Addr)} {m:Str}:∀ {names:List (Str×NameKind)} {cs:List (Str×Addr)},clGo env names cs=some cl->names.lookup m=some .free->∃c,cl.lookup m=some c
 | [],cs,e,h=>by simp at h
 | (n,k)::r,cs,e,h=>by
  unfold clGo at e
  rw[List.lookup_cons] at h
  by_cases hm:(m == n)=true
  ·rw[hm] at h
   cases h
   rw[if_pos (show (NameKind.free == NameKind.free)=true from rfl)] at e
   cases hc:env.cells.lookup n with
   | none=>rw[hc] at e;cases e
   | some c=>
    rw[hc] at e
    refine jX5 e ?_
    rw[List.lookup_cons,hm];exact⟨_,rfl⟩
  ·simp only[hm] at h
   by_cases hk:(k == NameKind.free)=true
   ·rw[if_pos hk] at e
    cases hc:env.cells.lookup n with
    | none=>rw[hc] at e;cases e
    | some c=>rw[hc] at e;exact jV7 e h
   ·rw[if_neg hk] at e
    exact jV7 e h
theorem jK4 {env:Env} {x:Str}:∀ {names:List (Str×NameKind)},(∀y∈names,y.2≠ .cell)->
  ((names.map fun (n,k)=>if (k == NameKind.free&&env.scope.kind == .function&&env.kindOf n == some .cell) then (n,NameKind.cell) else (n,k)).lookup x=some .cell\/
    (names.map fun (n,k)=>if (k == NameKind.free&&env.scope.kind == .function&&env.kindOf n == some .cell) then (n,NameKind.cell) else (n,k)).lookup x=some .free)->names.lookup x=some .free
 | [],_,h=>by simp at h
 | (n,k)::r,hc,h=>by
  have ih:= @jK4 env x r (fun y hy=>hc y (List.mem_cons_of_mem _ hy))
  have hk:=hc (n,k) List.mem_cons_self
  rw[List.map_cons] at h
  rw[List.lookup_cons]
  by_cases hx:(x == n)=true
  ·rw[hx]
   by_cases hf:(k == NameKind.free&&env.scope.kind == .function&&env.kindOf n == some .cell)=true
   ·have:(k == NameKind.free)=true:=by
     rw[Bool.and_eq_true,Bool.and_eq_true] at hf;exact hf.1.1
    rw[eq_of_beq this]
   ·simp only[hf,if_false,Bool.false_eq_true,List.lookup_cons,hx] at h
    rcases h with h | h
    ·cases h;exact absurd rfl hk
    ·cases h;rfl
  ·simp only[hx]
   refine ih ?_
   by_cases hf:(k == NameKind.free&&env.scope.kind == .function&&env.kindOf n == some .cell)=true
   ·simpa only[hf,if_true,List.lookup_cons,hx] using h
   ·simpa only[hf,if_false,Bool.false_eq_true,List.lookup_cons,hx] using h
theorem jQh {env:Env} {x:Str}:∀ {names:List (Str×NameKind)},
  (names.map fun (n,k)=>if (k == NameKind.free&&env.scope.kind == .function&&env.kindOf n == some .cell) then (n,NameKind.cell) else (n,k)).lookup x=some .local->names.lookup x=some .local
 | [],h=>by simp at h
 | (n,k)::r,h=>by
  have ih:= @jQh env x r
  rw[List.map_cons] at h
  rw[List.lookup_cons]
  by_cases hx:(x == n)=true
  ·rw[hx]
   by_cases hf:(k == NameKind.free&&env.scope.kind == .function&&env.kindOf n == some .cell)=true
   ·simp only[hf,if_true,List.lookup_cons,hx] at h;cases h
   ·simp only[hf,if_false,Bool.false_eq_true,List.lookup_cons,hx] at h;exact h
  ·simp only[hx]
   refine ih ?_
   by_cases hf:(k == NameKind.free&&env.scope.kind == .function&&env.kindOf n == some .cell)=true
   ·simpa only[hf,if_true,List.lookup_cons,hx] using h
   ·simpa only[hf,if_false,Bool.false_eq_true,List.lookup_cons,hx] using h
noncomputable def jQc (X:Cx)(scope:Scope)(cl:List (Str×Addr))(C:Addr)(fp:List Addr)(s:Shared)(H:Hp):Cx:=
 {X with env:=compEnvC scope cl C X.env,s₀:=s,H₀:=H,outer:=X.stack,stack:=X.stack,ex:=fp,fn:=fun _=>false,pn:=[],xe:=fun _ _=>False}
structure CmpOk (X:Cx) (scope:Scope) (cl:List (Str×Addr)) (mask:List Bool):Prop where
 cl:clGo X.env scope.names []=some cl
 kind:scope.kind= .function
 nocell:(scope.names.all fun y=>y.2 != .cell)=true
 names:(scope.names.all fun y=>y.2 != .local||scope.names.lookup y.1 == some .local)=true
 vis:(scope.names.all fun y=>y.2 != .free||X.env.kindOf y.1 == some .cell||X.env.kindOf y.1 == some .free)=true
 len:mask.length=X.N.length
 mask:((X.N.zip mask).all fun p=>p.2||scope.names.lookup p.1 != some .local)=true
def msk {α:Type}(mask:List Bool)(τ:List (Option α)):List (Option α):=List.zipWith (fun b o=>if b=true then none else o) mask τ
variable {mask:List Bool}
theorem kKh {α:Type}{τ:List (Option α)}{t:α}(h:(msk mask τ)[i]? =some (some t)):mask[i]? =some false/\τ[i]? =some (some t):=by
 unfold msk at h
 rw[List.getElem?_zipWith] at h
 cases hm:mask[i]? with
 | none=>exact absurd (hm▸h) (by simp)
 | some b=>
  cases ht:τ[i]? with
  | none=>rw[hm,ht] at h;cases h
  | some o=>
   rw[hm,ht] at h
   cases b with
   | true=>simp at h
   | false=>simp at h;exact⟨rfl,by rw[h]⟩
theorem jVj {α:Type}{τ:List (Option α)}(h:mask.length=τ.length):(msk mask τ).length=τ.length:=by
 unfold msk;rw[List.length_zipWith,h,Nat.min_self]
theorem kVs (h:SRel K H σ τ)(hl:mask.length=τ.length):SRel K H (msk mask σ) (msk mask τ):=by
 refine⟨by rw[jVj hl,jVj (hl.trans h.1.symm),h.1],fun i t q=> ?_⟩
 obtain⟨h1,h2⟩:=kKh q
 obtain⟨v,h3,h4⟩:=h.2 i t h2
 refine⟨v,?_,h4⟩
 unfold msk
 rw[List.getElem?_zipWith,h1,h3]
 simp
section
variable {cl:List (Str×Addr)}
theorem CmpOk.local (c:CmpOk X scope cl mask){x:Str}(h1:X.N[i]? =some x)(h2:mask[i]? =some false):scope.names.lookup x≠some .local:=by
 have h:=c.mask
 rw[List.all_eq_true] at h
 have hz:(X.N.zip mask)[i]? =some (x,false):=by rw[List.getElem?_zip_eq_some];exact⟨h1,h2⟩
 have:=h _ (List.mem_of_getElem? hz)
 simpa using this
theorem CmpOk.free (c:CmpOk X scope cl mask){x:Str}(h:scope.names.lookup x=some .free):X.env.kindOf x=some .cell\/X.env.kindOf x=some .free:=by
 have hv:=c.vis
 rw[List.all_eq_true] at hv
 have:=hv (x,.free) (PySem.mem_of_lookup h)
 simpa using this
theorem CmpOk.nc (c:CmpOk X scope cl mask):∀y∈scope.names,y.2≠ .cell:=by
 have hv:=c.nocell
 rw[List.all_eq_true] at hv
 intro y hy
 simpa using hv y hy
theorem CmpOk.nm (c:CmpOk X scope cl mask):∀y∈scope.names,y.2= .local->scope.names.lookup y.1=some .local:=by
 have hv:=c.names
 rw[List.all_eq_true] at hv
 intro y hy e
 have:=hv y hy
 rw[e] at this
 simpa using this
theorem kXz (c:CmpOk X scope cl mask){h4:Heap}{tk:Nat}(I:Inv X pins σ H s)(hf:∀b∈fp,FpOk X pins H b)(ho:∀b∈fp,∃o,s.heap.get? b=some o)(hns:h4.Ns s.heap.objs.size fun _=>none)(hk:∀b o,s.heap.get? b=some o->h4.get? b=some o):
  Inv (jQc X scope cl s.heap.objs.size fp s H) [] (msk mask σ) H {s with heap:=h4,toks:=tk}:=by
 have sub:=jV6 c.cl (by simp)
 have ok:(jQc X scope cl s.heap.objs.size fp s H).Ok:=by
  refine⟨I.ok.mod,c.kind,I.ok.glob,I.ok.blt,Nat.le_refl _,fun x y d h1 h2=>I.ok.inj x y d (sub _ _ h1) (sub _ _ h2),fun x hx=>jV7 c.cl (jK4 (env:=X.env) c.nc hx),fun x d hx=>absurd (show false=true from hx) Bool.false_ne_true,I.ok.hd,I.ok.gd,I.ok.frames,.inl rfl,
   fun b hb=> ?_,I.bs,Nat.le_trans I.ok.bsz I.sz,fun b o e hb=> ?_,fun b hb hz=> ?_,I.stack,I.stkFree⟩
  ·obtain⟨o,e⟩:=ho b hb
   exact⟨Nat.ne_of_lt (Heap.lt_size e),fun x d hd=>(hf b hb).2.2.2.2.1 x d (sub _ _ hd)⟩
  ·rcases (hf b hb).2.2.2.1 with z | z
   ·exact I.ok.noex b o e z
   ·exact absurd (Nat.lt_of_lt_of_le (Heap.lt_size e) I.ok.bsz) (Nat.not_lt.mpr z)
  ·rcases List.mem_cons.mp (I.stkSub b hz) with z | z
   ·exact (hf b hb).2.1 z
   ·exact (hf b hb).2.2.1 z
 refine⟨ok,rfl,I.bare,Un.kept hk,⟨_,hns,fun i x v h1 h2 h3=> ?_⟩,fun x d hd=> ?_,I.hok.fresh (Nat.le_refl _),fun x d hd=>I.freeC x d (sub _ _ hd),fun p hp=>absurd (show p∈([]:List (Addr×Obj)) from hp) (by simp),I.hok.kept hk,?_⟩
 ·obtain⟨m1,m2⟩:=kKh h2
  have nl:=c.local h1 m1
  have fr:scope.names.lookup x=some .free:=by
   rcases h3 with z | z | z
   ·exact absurd (jQh (env:=X.env) z) nl
   ·exact jK4 (env:=X.env) c.nc (.inl z)
   ·exact jK4 (env:=X.env) c.nc (.inr z)
  have hkk:=c.free fr
  obtain⟨m,hn,hl⟩:=I.loc
  have vis:Vis X.env.scope x:=by rcases hkk with z | z;exact .inr (.inl z);exact .inr (.inr z)
  obtain⟨u,ru,lk⟩:=hl i x v h1 m2 vis
  refine⟨u,ru,?_⟩
  rcases lk with ⟨z,_⟩ | ⟨_,d,hd,cd⟩
  ·exfalso;rcases hkk with q | q<;>(rw[z] at q;cases q)
  ·obtain⟨d',hd'⟩:=jV7 c.cl fr
   have:d'=d:=by have:=sub _ _ hd';rw[hd] at this;exact (Option.some.inj this).symm
   subst this
   refine .inr ⟨?_,d',hd',cd.keeps hk⟩
   rcases h3 with z | z | z
   ·exact absurd (jQh (env:=X.env) z) nl
   ·exact .inl z
   ·exact .inr z
 ·obtain⟨v,hv⟩:=I.cell x d (sub _ _ hd)
  exact⟨v,hv.keeps hk⟩
 ·exact (jVj (c.len.trans I.len.symm)).trans I.len
theorem qK8 {σ':L2.St}{s':Shared}{pl:List (Addr×Obj)}(I:Inv X pins σ H s)(hf:∀b∈fp,FpOk X pins H b)(hC:s.heap.objs.size<=C)(J:Inv (jQc X scope cl C fp s H) pl σ' H' s')(hb:Heap.SameBut C s'.heap h'):Inv X pins σ H' {s' with heap:=h'}:=by
 have ne:∀b o,s.heap.get? b=some o->b≠C:=fun b o e=>Nat.ne_of_lt (Nat.lt_of_lt_of_le (Heap.lt_size e) hC)
 have u:=J.base
 have hfree:H' C=none:=J.free
 have u':Un (frs X.stack) fp H H' s.heap h':=⟨fun b o e n hb' hx=>(hb.2 b (ne b o e)).trans (u.keep b o e n hb' hx),fun b o e n hb' hx=>let ⟨sl,z⟩:=u.slot b o e n hb' hx;⟨sl,(hb.2 b (ne b o e)).trans z⟩,
  u.free,fun b o e hx=>let ⟨o',z⟩:=u.there b o e hx;⟨o',(hb.2 b (ne b o e)).trans z⟩,u.tups,u.frzs,u.tbls⟩
 have hok:HOk X.prog X.w H' h':=fun b ob e=>(J.hok b ob e).stay (fun c w' hc q=>(hb.2 c (by
  rintro rfl
  rcases hc with rfl | hc
  ·rw[hfree] at e;cases e
  ·rw[hfree] at hc;cases hc)).trans q) (fun _ q=>q) fun _ _ q=>q
 exact I.call' (s':={s' with heap:=h'}) J.os u' hok J.bare fun b hb=>⟨(hf b hb).2.2.2.1,(hf b hb).2.1,(hf b hb).2.2.2.2.1,(hf b hb).2.2.2.2.2⟩
end
abbrev kXx (ifs:List Expr)(env:Env):Sem Bool:=forIn ifs true fun c b=>if b=true then isTrue c env (eval c env) >>= fun d=>pure (ForInStep.yield d) else pure (ForInStep.yield b)
noncomputable def kZ8 (M:Model)(A:Around)(elt tg:Expr)(ifs:List Expr)(it acc:Value)(env:Env)(stop more:Shared->Prop):Option Value->Shared->Prop
 | none=>stop
 | some v=>fun z=>wpAny M A (letOwnedTupleGo tg it v) (fun _ z1=>wpAny M A (assign tg env v) (fun _ z2=>wpAny M A (kXx ifs env) (fun ok z3=>if ok=true then wpAny M A (eval elt env) (fun x z4=>wpAny M A (call (.builtin "list.append") [acc,x]) (fun _=>more) (fun _ _=>False) z4) (fun _ _=>False) z3 else more z3) (fun _ _=>False) z2) (fun _ _=>False) z1) (fun _ _=>False) z
variable {elt:Expr}{ifs:List Expr}
theorem kXy {A:Around}{R:Result->Shared->Prop}{it acc:Value}(I:Nat->Shared->Prop)(turn:∀k z,I k z->wpAny (model P w) A (pyNext it) (kZ8 (model P w) A elt tg ifs it acc env (R (.ok .next)) fun z'=>∃m,m<k/\I m z') (fun _ _=>False) z)(n:Nat)(h:I n s):codeAny (model P w) A (.compLoop (.ListComp elt [⟨tg,iter,ifs,0⟩] scope pos) 0 it acc env) R s:=by
 refine codeAny_loop rfl I (fun k z hz=>(show wpAny _ A ((compTurn (.ListComp elt [⟨tg,iter,ifs,0⟩] scope pos) 0 it acc env).onRaise _) _ _ z from wpAny_noted ?_)) n h
 rw[compTurn_list]
 refine wpAny_bind (wpAny_standAt (wpAny_bind (wpAny_mono (turn k z hz) (fun r z1 h1=> ?_) fun _ _ e=>e.elim)))
 cases r with
 | none=>exact wpAny_pure h1
 | some v=>
  refine wpAny_bind (wpAny_mono h1 (fun _ z2 h2=>wpAny_bind (wpAny_mono h2 (fun _ z3 h3=>wpAny_bind (wpAny_mono h3 (fun ok z4 h4=> ?_) fun _ _ e=>e.elim)) fun _ _ e=>e.elim)) fun _ _ e=>e.elim)
  by_cases hok:ok=true
  ·subst hok
   exact wpAny_bind (wpAny_bind (wpAny_mono h4 (fun x z5 h5=>wpAny_bind (wpAny_mono h5 (fun _ z6 h6=>wpAny_pure (wpAny_pure ⟨rfl,h6⟩)) fun _ _ e=>e.elim)) fun _ _ e=>e.elim))
  ·obtain rfl:ok=false:=by simpa using hok
   exact wpAny_pure ⟨rfl,h4⟩
noncomputable def PIf3 (X:Cx)(ifs:List Expr)(t:TT3):Prop:=∀(pins:List (Addr×Obj)) (s:Shared) (τ:St3) (G:Gp) (H:Hp) (Q:Bool->Gp->Prop),Inv3 X pins τ G H s->t τ G Q->
 wpAny (model X.prog X.w) X.A (forIn ifs true fun c r=>if r=true then do let ok <-isTrue c X.env (eval c X.env);pure (ForInStep.yield ok) else pure (ForInStep.yield r)) (TP3 X pins τ H Q) X.xe s
def kQ2:TT3:=fun _ G Q=>Q true G
theorem kQl:PIf3 X [] kQ2:=fun _ _ _ G H _ I q=>wpAny_tests_nil ⟨G,H,.refl H,I,q⟩
theorem qJf {t:TT3}(h:PT3 X c t):PIf3 X [c] t:=fun pins s τ G H Q I q=>wpAny_tests_one (h pins s τ G H Q I q)
def kUs (mask:List Bool)(g:TG3):Prop:=∀v τ G Q,g v τ G Q->g v τ G fun τ2 G2=>Q τ2 G2/\τ2.length=τ.length/\∀i:Nat,mask[i]? ≠some true->τ2[i]? =τ[i]?
def kQx (mask:List Bool)(g:TGs3):Prop:=∀v τ G Q,g v τ G Q->g v τ G fun τ2 G2=>Q τ2 G2/\τ2.length=τ.length/\∀i:Nat,mask[i]? ≠some true->τ2[i]? =τ[i]?
theorem jUq (h:mask[i]? =some true:=by rfl):kUs mask (jJl i):=fun v τ G Q q=>
 ⟨q,List.length_set ..,fun j hj=>List.getElem?_set_ne (by rintro rfl;exact hj h)⟩
theorem gk_nil:kQx mask gNil:=fun v τ G Q ⟨e,q⟩=>⟨e,q,rfl,fun _ _=>rfl⟩
theorem kXc {t:TG3}{u:TGs3}(h1:kUs mask t)(mono:∀v τ G Q Q',(∀a b,Q a b->Q' a b)->t v τ G Q->t v τ G Q')(h2:kQx mask u)(mono2:∀v τ G Q Q',(∀a b,Q a b->Q' a b)->u v τ G Q->u v τ G Q'):kQx mask (jQ3 t u):=fun vs τ G Q ⟨v,r,e,q⟩=>by
 refine⟨v,r,e,mono _ _ _ _ _ (fun τ2 G2 ⟨z,l1,k1⟩=> ?_) (h1 _ _ _ _ q)⟩
 exact mono2 _ _ _ _ _ (fun τ3 G3 ⟨z3,l3,k3⟩=>⟨z3,l3.trans l1,fun i hi=>(k3 i hi).trans (k1 i hi)⟩) (h2 _ _ _ _ z)
theorem kKo:∀v τ G (Q Q':St3->Gp->Prop),(∀a b,Q a b->Q' a b)->jJl i v τ G Q->jJl i v τ G Q':=fun _ _ _ _ _ h q=>h _ _ q
theorem qJg:∀v τ G (Q Q':St3->Gp->Prop),(∀a b,Q a b->Q' a b)->gNil v τ G Q->gNil v τ G Q':=fun _ _ _ _ _ h q=>⟨q.1,h _ _ q.2⟩
theorem qKw {t:TG3}{u:TGs3}(m1:∀v τ G (Q Q':St3->Gp->Prop),(∀a b,Q a b->Q' a b)->t v τ G Q->t v τ G Q')(m2:∀v τ G (Q Q':St3->Gp->Prop),(∀a b,Q a b->Q' a b)->u v τ G Q->u v τ G Q'):
  ∀v τ G (Q Q':St3->Gp->Prop),(∀a b,Q a b->Q' a b)->jQ3 t u v τ G Q->jQ3 t u v τ G Q':=fun _ _ _ _ _ h ⟨v,r,e,q⟩=>⟨v,r,e,m1 _ _ _ _ _ (fun _ _ z=>m2 _ _ _ _ _ h z) q⟩
theorem gk_tup {u:TGs3}(h:kQx mask u):kUs mask (gTup n u):=fun v τ G Q ⟨xs,e,l,q⟩=>⟨xs,e,l,h _ _ _ _ q⟩
theorem kZg {τ2:St3}(hl:mask.length=τ.length)(l:τ2.length=(msk mask τ).length)(h:∀i:Nat,mask[i]? ≠some true->τ2[i]? =(msk mask τ)[i]?):msk mask τ2=msk mask τ:=by
 have ll:=jVj hl
 apply List.ext_getElem?
 intro i
 unfold msk at h ⊢
 rw[List.getElem?_zipWith,List.getElem?_zipWith]
 cases hm:mask[i]? with
 | none=>rfl
 | some b=>
  cases b with
  | true=>
   have h1:i<mask.length:=by
    rcases Nat.lt_or_ge i mask.length with z | z
    ·exact z
    ·rw[List.getElem?_eq_none z] at hm;cases hm
   have h2:i<τ2.length:=by omega
   have h3:i<τ.length:=by omega
   rw[List.getElem?_eq_getElem h2,List.getElem?_eq_getElem h3]
   simp
  | false=>
   have:=h i (by rw[hm];simp)
   rw[List.getElem?_zipWith,hm] at this
   rw[this]
   cases τ[i]? with
   | none=>rfl
   | some o=>simp
noncomputable def kJ0 (mask:List Bool)(g:TG3)(tif:TT3)(te:TE3)(τ:St3)(xs:List T)(stay:Gp->Prop)(G:Gp)(Q:VK3):Prop:=
 ∀D,G D=none->∃P:Nat->List T->Gp->Prop,P 0 [] (gup G D (.lst []))/\(∀i acc G,i<=xs.length->P i acc G->stay G/\G D=some (.lst acc))/\
  (∀i x acc G,xs[i]? =some x->P i acc G->g x (msk mask τ) G fun τ2 G2=>tif τ2 G2 fun b G3=>if b=true then te τ2 G3 fun y G4=>G4 D=some (.lst acc)/\acc.length<sizeLine/\P (i+1) (acc++[y]) (gup G4 D (.lst (acc++[y]))) else P (i+1) acc G3)/\
  ∀acc G,P xs.length acc G->Q (.ref D) G
def jYu (mask:List Bool)(wi:TI3)(g:TG3)(tif:TT3)(te:TE3):TE3:=fun τ G Q=>wi τ G fun xs stay G1=>kJ0 mask g tif te τ xs stay G1 Q
section
variable {cl:List (Str×Addr)}{tif:TT3}
theorem jYo (hc:X.calm=true)(ok:CmpOk X scope cl mask)(hgk:kUs mask g)(hg:∀C fp s H,PG3 (jQc X scope cl C fp s H) tg g)(hif:∀C fp s H,PIf3 (jQc X scope cl C fp s H) ifs tif)(he:∀C fp s H,PE3 (jQc X scope cl C fp s H) elt te){itv:Value}{s2:Shared}{E:Value->Shared->Prop}{RR:Value->Addr->Result->Shared->Prop}(h2:PIE3 X pins τ H tg (fun xs stay G=>kJ0 mask g tif te τ xs stay G Q) itv s2)(hRR:∀D C s' m,s'.heap.Ns C m->(∃G1 H1,Ext H H1/\H1 C=none/\Q (.ref D) G1/\∀h',Heap.SameBut C s'.heap h'->Inv3 X pins τ G1 H1 {s' with heap:=h'})->(∃oC,s'.heap.get? C=some oC/\C≠X.env.locals/\C∉X.fs/\∀v,oC.data≠ .cell v)->(∀x c,X.env.cells.lookup x=some c->c≠C)->(∀p∈X.pn++pins,p.1≠C)->X.s₀.heap.objs.size<=C->RR (.ref D) C (.ok .next) s'):
  wpAny (model X.prog X.w) X.A (newList []) (fun acc s₃=>wpAny (model X.prog X.w) X.A (newFunctionEnv scope X.env.globals cl [] X.env.qual none .none (some X.env)) (fun cenv s₄=>
   codeAny (model X.prog X.w) X.A (.compStart (.ListComp elt [⟨tg,iter,ifs,0⟩] scope pos) 0 itv acc {cenv with scope:=relabel scope X.env}) (RR acc cenv.locals) s₄) E s₃) E s2:=by
 obtain⟨it,fp,tn,J,xs,stay,G2,H2,e,eH,⟨σ,I2,hs2,hg2⟩,T0,st2,f2,IT,hq⟩:=h2
 subst e
 refine wpAny_newObj_type (wpAny_newFunctionEnv ok.nc (by intro y hy;simp at hy) (fun h4 hns hsb=> ?_) ok.kind)
 dsimp only at hns hsb ⊢
 have hD:H2 s2.heap.objs.size=none:=I2.hok.fresh (Nat.le_refl _)
 generalize hs3:({s2 with heap:=s2.heap.push {cls:= .type "list",dict:=none,data:= .seq ([]:List Value).toArray} }:Shared)=s3
 have eh3:s2.heap.push {cls:= .type "list",dict:=none,data:= .seq ([]:List Value).toArray}=s3.heap:=by rw[<-hs3]
 have I3:Inv X pins σ (upd H2 s2.heap.objs.size (.lst [])) s3:=by
  rw[<-hs3]
  exact I2.laid (t':=s2.toks) (fun b u e=>Heap.get?_push_of_some _ e) (Nat.le_refl _) ⟨Nat.zero_le _,[],0,.nil,Heap.get?_push_size _ rfl⟩
 rw[eh3] at hns hsb ⊢
 generalize hDd:s2.heap.objs.size=D at *
 have e3:Ext H2 (upd H2 D (.lst [])):= .upd (.none hD)
 have hg3:GRel X.K (upd H2 D (.lst [])) (gup G2 D (.lst [])):=hg2.lstNew (show Reps X.K H2 [] [] from rfl) (.none hD)
 have obj2:∀b∈fp,∃o,s2.heap.get? b=some o:=fun b hb=>let ⟨o,e,_⟩:=T0.obj 0 _ st2 b hb;⟨o,e⟩
 have fD:∀b∈fp,b≠D:=fun b hb=>by obtain⟨o,e⟩:=obj2 b hb;rw[<-hDd];exact Nat.ne_of_lt (Heap.lt_size e)
 have f3:∀b∈fp,FpOk X pins (upd H2 D (.lst [])) b:=fun b hb=>⟨by rw[jJk (fD b hb)];exact (f2 b hb).1,(f2 b hb).2⟩
 have k3:∀b o,s2.heap.get? b=some o->s3.heap.get? b=some o:=fun b o e=>by rw[<-eh3];exact Heap.get?_push_of_some _ e
 have obj3:∀b∈fp,∃o,s3.heap.get? b=some o:=fun b hb=>let ⟨o,e⟩:=obj2 b hb;⟨o,k3 b o e⟩
 have k4:∀b o,s3.heap.get? b=some o->h4.get? b=some o:=fun b o e=>hsb.extBut b o (Nat.ne_of_lt (Heap.lt_size e)) (Heap.get?_push_of_some _ e)
 have Ic:Inv (jQc X scope cl s3.heap.objs.size fp s3 (upd H2 D (.lst []))) [] (msk mask σ) (upd H2 D (.lst [])) {s3 with heap:=h4,toks:=s3.toks+([]:List (Str×Value)).length}:=kXz ok I3 f3 obj3 hns k4
 have st4:tn 0 h4:=T0.keep _ _ _ st2 fun b _ o e=>k4 b o (k3 b o e)
 have hl3:mask.length=τ.length:=ok.len.trans (I3.len.symm.trans hs2.1)
 obtain⟨P,p0,hst,turn,fin⟩:=hq D (hg2.fresh hD)
 have fpc:∀ {H':Hp} {pl:List (Addr×Obj)},(∀b∈fp,H' b=none)->(∀p∈pl,p.1∉fp)->∀b∈fp,FpOk (jQc X scope cl s3.heap.objs.size fp s3 (upd H2 D (.lst []))) pl H' b:=fun {H' pl} hn hp b hb=>by
  obtain⟨o,e⟩:=obj3 b hb
  refine⟨hn b hb,Nat.ne_of_lt (Heap.lt_size e),?_,.inl hb,fun x d hd=>(f3 b hb).2.2.2.2.1 x d (jV6 ok.cl (by simp) _ _ hd),fun p hpp z=> ?_⟩
  ·intro z
   rcases List.mem_cons.mp (I3.stkSub b z) with q | q
   ·exact (f3 b hb).2.1 q
   ·exact (f3 b hb).2.2.1 q
  ·have hpp':p∈pl:=by simpa[jQc] using hpp
   exact hp p hpp' (z▸hb)
 have loop:∀s4:Shared,s4={s3 with heap:=h4,toks:=s3.toks+([]:List (Str×Value)).length}->
   codeAny (model X.prog X.w) X.A (.compLoop (.ListComp elt [⟨tg,iter,ifs,0⟩] scope pos) 0 (.ref it) (.ref D) (compEnvC scope cl s3.heap.objs.size X.env)) (RR (.ref D) s3.heap.objs.size) s4:=by
  rintro s4 rfl
  refine kXy (fun n s'=>∃i acc G' H',n=xs.length-i/\i<=xs.length/\Ext H2 H'/\Inv3 (jQc X scope cl s3.heap.objs.size fp s3 (upd H2 D (.lst []))) [] (msk mask τ) G' H' s'/\tn i s'.heap/\(∀b∈fp,H' b=none)/\P i acc G') ?_ xs.length
   ⟨0,[],_,_,rfl,Nat.zero_le _,e3,⟨_,Ic,kVs (hs2.mono e3) hl3,hg3⟩,st4,fun b hb=>(f3 b hb).1,p0⟩
  rintro n s5 ⟨i,acc,G5,H5,en,hi5,e5,⟨σ5,I5,hs5,hg5⟩,st5,fr5,p5⟩
  obtain⟨hstay,hacc⟩:=hst i acc G5 hi5 p5
  obtain⟨go,stop,yl⟩:=IT i H5 G5 e5 hg5 hstay
  by_cases hlt:i<xs.length
  ·refine thn (T0.item (jQc X scope cl s3.heap.objs.size fp s3 (upd H2 D (.lst []))) rfl rfl rfl hc i [] s5 σ5 H5 (fun _ _=>False) I5 (fpc fr5 (by simp)) st5 (go hlt)) fun r s6 ⟨u,hr,h6⟩=> ?_
   subst hr
   refine thn h6 fun _ s7 ⟨x,H7,I7,r7,y7,st7,fr7⟩=> ?_
   obtain⟨e7,g7,t,ht,rt⟩:=yl hlt x H7 y7
   have I7':=I7.pinned (fpc fr7 (by simp)) (T0.obj _ _ st7)
   refine thn (hg _ _ _ _ ([]++jUe fp s7.heap) s7 (msk mask τ) G5 H7 t u _ ⟨σ5,I7',hs5.mono e7,g7⟩ ⟨x,rt,r7⟩ (hgk _ _ _ _ (turn i t acc G5 ht p5))) fun _ s8 ⟨τ8,G8,H8,e8,I8,q8,ql8,qk8⟩=> ?_
   refine thn (hif _ _ _ _ ([]++jUe fp s7.heap) s8 τ8 G8 H8 _ I8 q8) fun b s9 ⟨G9,H9,e9,I9,q9⟩=> ?_
   have back:∀ {Ga:Gp} {Ha:Hp} {sa:Shared} {acc':List T},Ext H7 Ha->Inv3 (jQc X scope cl s3.heap.objs.size fp s3 (upd H2 D (.lst []))) ([]++jUe fp s7.heap) τ8 Ga Ha sa->P (i+1) acc' Ga->
     ∃m,m<n/\∃i acc G' H',m=xs.length-i/\i<=xs.length/\Ext H2 H'/\Inv3 (jQc X scope cl s3.heap.objs.size fp s3 (upd H2 D (.lst []))) [] (msk mask τ) G' H' sa/\tn i sa.heap/\(∀b∈fp,H' b=none)/\P i acc G':=by
    rintro Ga Ha sa acc' ea ⟨σa,Ia,hsa,hga⟩ pa
    have e2a:Ext H5 Ha:=e7.trans ea
    have hla:mask.length=τ8.length:=by rw[ql8,jVj hl3];exact hl3
    have hsm:=kVs (mask:=mask) hsa hla
    rw[kZg hl3 ql8 qk8] at hsm
    refine⟨xs.length-(i+1),by omega,i+1,acc',Ga,Ha,rfl,hlt,e5.trans e2a,⟨msk mask σa,(Ia.weak (jVj (hla.trans hsa.1.symm)) fun j v hv=>(kKh hv).2).pins_of (fun p hp=>absurd hp (by simp)),hsm,hga⟩,?_,fun b hb=> ?_,pa⟩
    ·exact T0.keep _ _ _ st7 fun b hb o e=>(Ia.pin (b,o) (List.mem_append_right _ (List.mem_append_right _ (jQ7 hb e)))).1
    ·obtain⟨o,e,d⟩:=T0.obj _ _ st7 b hb
     exact (Ia.pin (b,o) (List.mem_append_right _ (List.mem_append_right _ (jQ7 hb e)))).2.1
   cases b with
   | false=>
    rw[if_neg Bool.false_ne_true] at q9 ⊢
    exact back (e8.trans e9) I9 q9
   | true=>
    rw[if_pos rfl] at q9 ⊢
    refine thn (he _ _ _ _ ([]++jUe fp s7.heap) s9 τ8 G9 H9 _ I9 q9) fun y s10 w_=>w_.el fun ty G10 H10 e10 I10 r10 ⟨hD10,hz10,q10⟩=> ?_
    obtain⟨vy,rvy,ruy⟩:=r10
    refine thn (jQ9 ([]++jUe fp s7.heap) s10 τ8 G10 H10 (.ref D) [ty] (.ref D) [y] (fun _ G'=>P (i+1) (acc++[ty]) G') I10 ⟨.ref D,rfl,rfl⟩ ⟨[vy],.one rvy,.cons ruy .nil⟩ ⟨D,acc,ty,rfl,rfl,hD10,hz10,q10⟩) fun _ s11 w_=>w_.el fun _ G11 H11 e11 I11 _ q11=> ?_
    exact back (((e8.trans e9).trans e10).trans e11) I11 q11
  ·have ei:i=xs.length:=by omega
   refine thn (T0.done (jQc X scope cl s3.heap.objs.size fp s3 (upd H2 D (.lst []))) rfl rfl rfl hc i [] s5 σ5 H5 (fun _ _=>False) I5 (fpc fr5 (by simp)) st5 (stop (by omega))) fun r s6 ⟨hr,I6⟩=> ?_
   subst hr;subst ei
   obtain⟨m,hn,_⟩:=I6.loc
   obtain⟨oC,es,ep,hoC,hdC,_⟩:=id hn
   refine hRR D s3.heap.objs.size s6 m hn ⟨G5,H5,eH.trans e5,I6.free,fin acc G5 p5,fun h' hb=>⟨σ,qK8 I3 f3 (Nat.le_refl _) I6 hb,hs2.mono e5,hg5⟩⟩
    ⟨oC,hoC,Nat.ne_of_gt I3.lt,I3.nofs (Nat.le_refl _),fun v z=>by rw[hdC] at z;cases z⟩ (fun x d hd=> ?_) (fun p hp=> ?_) I3.sz
   ·obtain⟨v,q⟩:=I3.cell x d hd
    exact Nat.ne_of_lt q.lt
   ·exact Nat.ne_of_lt (Heap.lt_size (I3.pin p hp).1)
 exact codeAny_compStart_list (loop _ (by rw[<-hs3])) (T0.self _ 0 _ _ _ st4 (loop _ (by rw[<-hs3])))
theorem kJl (hc:X.calm=true)(ok:CmpOk X scope cl mask)(hi:PI3 X tg iter wi)(hgk:kUs mask g)(hg:∀C fp s H,PG3 (jQc X scope cl C fp s H) tg g)(hif:∀C fp s H,PIf3 (jQc X scope cl C fp s H) ifs tif)(he:∀C fp s H,PE3 (jQc X scope cl C fp s H) elt te)(hs:∀x,foldedSetIterable iter X.env x=pure x:=by intro _;rfl):PE3 X (.ListComp elt [⟨tg,iter,ifs,0⟩] scope pos) (jYu mask wi g tif te):=by
 intro pins s τ G H Q I h
 rw[eval_ListComp]
 refine wpAny_comprehension_free (use:=none) rfl hs (jYp ok.cl) ok.kind ok.nm (thn (hi pins s τ G H _ I h) fun xv s1 h1=>thn h1 fun itv s2 h2=> ?_)
 refine jYo (RR:=fun acc C=>compPost (model X.prog X.w) X.A X.xe none (EP3 X pins τ H Q) acc C) hc ok hgk hg hif he h2 ?_
 rintro D C s' m hn ⟨G1,H1,e1,_,q1,hI⟩ _ _ _ _
 exact⟨m,hn,fun h' hb=>⟨.ref D,G1,H1,e1,hI h' hb,⟨.ref D,rfl,rfl⟩,q1⟩⟩
theorem s_comp {y:Str}{py spos:Pos}(hc:X.calm=true)(hN:X.N.Nodup)(ok:CmpOk X scope cl mask)(hi:PI3 X tg iter wi)(hgk:kUs mask g)(hg:∀C fp s H,PG3 (jQc X scope cl C fp s H) tg g)(hif:∀C fp s H,PIf3 (jQc X scope cl C fp s H) ifs tif)(he:∀C fp s H,PE3 (jQc X scope cl C fp s H) elt te)(hy:X.N[i]? =some y:=by rfl)(hx:X.env.scope.names.lookup y=some .local:=by rfl)(hsw:swapsWith (.ListComp elt [⟨tg,iter,ifs,0⟩] scope pos) (some (.Name y py)) spos.line X.env=pure true:=by rfl)(hs:∀x,foldedSetIterable iter X.env x=pure x:=by intro _;rfl):PS3 X (.Assign [.Name y py] (.ListComp elt [⟨tg,iter,ifs,0⟩] scope pos) spos) (tAsg (jYu mask wi g tif te) (jJl i)):=by
 intro pins s τ G H D I h
 rw[exec_Assign_Name_used _ _ _ _ hsw];refine wpAny_bind (wpAny_standAt (wpAny_bind ?_))
 show wpAny _ X.A (do let _ <-comprehension (.ListComp elt [⟨tg,iter,ifs,0⟩] scope pos) scope X.env _ (newList []) false (eval iter X.env) (some (assign (.Name y py) X.env))) _ _ s
 refine wpAny_bind (wpAny_mono (wpAny_comprehension_free (use:=some (assign (.Name y py) X.env)) (Q:=fun _ s'=>SP3 X pins H D .next s') rfl hs (jYp ok.cl) ok.kind ok.nm
  (thn (hi pins s τ G H _ I h) fun xv s1 h1=>thn h1 fun itv s2 h2=> ?_)) (fun _ s' hq=>wpAny_pure (wpAny_pure hq)) fun _ _ e=>e)
 refine jYo (RR:=fun acc C=>compPost (model X.prog X.w) X.A X.xe (some (assign (.Name y py) X.env)) (fun _ s'=>SP3 X pins H D .next s') acc C) hc ok hgk hg hif he h2 ?_
 rintro Dd C s' m hn ⟨G1,H1,e1,hH1C,q1,hI⟩ ⟨oC,hoC,c1,c2,c3⟩ c4 c5 c6
 show wpAny _ X.A (assign (.Name y py) X.env (.ref Dd)) _ _ _
 obtain⟨σ1,I1,hs1,hg1⟩:=hI s'.heap (.refl ..)
 have I1':Inv X (pins++[(C,oC)]) σ1 H1 s':=I1.pins_of fun p hp=>(List.mem_append.mp hp).elim (fun z=>I1.pin p (List.mem_append_right _ z)) fun z=>by
  obtain rfl:p=(C,oC):=by simpa using z
  exact⟨hoC,hH1C,c1,c2,c3⟩
 refine wpAny_assign_Name (jUt I1' hN hy (.inl hx) (v:= .ref Dd) rfl (fun s2 I2=> ?_) (.inr hx))
 have hC2:s2.heap.get? C=some oC:=(I2.pin (C,oC) (List.mem_append_right _ (List.mem_append_right _ (by simp)))).1
 obtain⟨oC',es,ep,hoC',r⟩:=hn
 have eo:oC'=oC:=by rw[hoC] at hoC';exact (Option.some.inj hoC').symm
 subst eo
 refine⟨m,⟨oC',es,ep,hC2,r⟩,fun h' hb=>⟨_,G1,H1,e1,⟨_,?_,hs1.set i (show Rep X.K H1 (.ref Dd) (.ref Dd) from rfl),hg1⟩,q1⟩⟩
 exact I2.unpinned.turned (t':=s2.toks) (fun b o hb' e=>(hb.2 b hb').trans e) hH1C c1 (.inr c6) c4 c5
end
end L3
namespace HT
open PySem PyProof.Rows
def lexLe:(xs ys:List Int)->Bool
 | [],_=>true
 | _::_,[]=>false
 | x::xs,y::ys=>if x=y then lexLe xs ys else decide (x<=y)
theorem kUg (x y:Int)(xs ys:List Int):lexLe (x::xs) (y::ys)=if x=y then lexLe xs ys else decide (x<=y):=rfl
theorem kVy (ys:List Int):lexLe [] ys=true:=by cases ys<;>rfl
theorem jYf (x:Int)(xs:List Int):lexLe (x::xs) []=false:=rfl
theorem kYx (A:Around)(s:Shared)(a:Int)(t:Tok)(c:Int)(u:Tok)(prog:Program)(w:World)(E:Value->Shared->Prop)(Q:Value->Shared->Prop)(h:Q (.bool (decide (a<=c))) s):
  wpAny (model prog w) A (richCompare .LtE (.int a t) (.int c u)) Q E s:=
 (PyProof.Rows.le_int h:wpAny (model prog w) A (compareOp .LtE (.int a t) (.int c u)) Q E s)
section
open PySem.SeqAt
open PySem.AutoSeq1 (wpAny_loadPart')
open PySem.MeetsSeq PySem.MeetsSeq2 PySem.MeetsSeq3
theorem jYr (l b:Addr)(items items2:Array Value)(n n2:Nat)(dd dd2:Option Addr)(sl sl2:Array (Option Value))(ns ms:List Int)(hi:IntsAre items.toList ns)(hj:IntsAre items2.toList ms):
  Meets (Builtin.«tuple.__le__» ⟨[.ref l,.ref b],[]⟩)
   (fun _ R s=>s.heap.get? l=some {cls:= .type "tuple",dict:=dd,data:= .seq items n,slots:=sl}/\s.heap.get? b=some {cls:= .type "tuple",dict:=dd2,data:= .seq items2 n2,slots:=sl2}/\
    R (.ok (.ret (.bool (lexLe ns ms)))) s):=
 .of_wp fun prog w A R s h=>by
  obtain⟨hp,g,d,tk,os⟩:=s;obtain⟨hl,hb,h⟩:=h
  have f2:=AutoSeq1.sub_tuple_tuple
  have z1:items.size=ns.length:=by rw[<-hi.length];simp
  have z2:items2.size=ms.length:=by rw[<-hj.length];simp
  wp_walk using wpAny_loadPart' hl,wpAny_loadPart' hb,wpAny_forIn_list _ (fun rest b s'=>b.1=none/\s'=⟨hp,g,d,tk,os⟩/\∃(vs ws:List Value) (ns' ms':List Int),rest=vs.zip ws/\
   IntsAre vs ns'/\IntsAre ws ms'/\ns'.length+items2.size=ms'.length+items.size/\R (.ok (.ret (.bool (lexLe ns' ms')))) ⟨hp,g,d,tk,os⟩) _
  case turn=>
   rintro⟨y,x⟩ rest b s' ⟨hb',rfl,vs,ws,ns',ms',hz,hvi,hwi,hlen,hR⟩
   cases hvi with
   | nil=>rw[List.zip_nil_left] at hz;cases hz
   | cons a t hvi'=>
    cases hwi with
    | nil=>rw[List.zip_nil_right] at hz;cases hz
    | cons c u hwi'=>
     rw[List.zip_cons_cons] at hz
     injection hz with hyx hrest
     injection hyx with hy hx
     subst hy hx
     rw[kUg] at hR
     simp only[List.length_cons] at hlen
     obtain⟨e,he,hiff⟩:=kZt A.in1 ⟨hp,g,d,tk,os⟩ a t c u
     refine wpAny_bind (he prog w _ _ ?_)
     cases e with
     | true=>
      rw[if_pos (hiff.mp rfl)] at hR
      wp_walk
      exact⟨rfl,rfl,_,_,_,_,hrest,hvi',hwi',by omega,hR⟩
     | false=>
      rw[if_neg (fun q=>absurd (hiff.mpr q) Bool.false_ne_true)] at hR
      have hri:=kYx A.in1 ⟨hp,g,d,tk,os⟩ a t c u prog w
      wp_walk using hri
      exact⟨_,rfl,by simpa using hR⟩
  case fin=>
   rintro⟨b1,b2⟩ s' ⟨hb',rfl,vs,ws,ns',ms',hz,hvi,hwi,hlen,hR⟩
   simp only at hb'
   subst hb'
   have hv:lexLe ns' ms'=decide (items.size<=items2.size):=by
    cases hvi with
    | nil=>
     simp only[List.length_nil] at hlen
     rw[kVy]
     exact (decide_eq_true (by omega)).symm
    | cons a t hv=>
     cases hwi with
     | nil=>
      simp only[List.length_nil,List.length_cons] at hlen
      rw[jYf]
      exact (decide_eq_false (by omega)).symm
     | cons c u hw=>
      rw[List.zip_cons_cons] at hz
      cases hz
   rw[hv] at hR
   wp_walk
   exact⟨_,rfl,by simpa[Builtin.Tuple.tupleCompareSizes] using hR⟩
  case h=>
   exact⟨rfl,rfl,items.toList,items2.toList,ns,ms,rfl,hi,hj,by omega,h⟩
end
theorem le_tupInts {prog:Program}{w:World}{A:Around}{E:Value->Shared->Prop}{s:Shared}{l b:Addr}{items items2:Array Value}{ns ms:List Int}{Q:Value->Shared->Prop}(hl:IsTup s.heap l items)(hb:IsTup s.heap b items2)(hi:IntsAre items.toList ns)(hj:IntsAre items2.toList ms)(hu:A.units<cLine)(h:Q (.bool (lexLe ns ms)) s):wpAny (model prog w) A (compareOp .LtE (.ref l) (.ref b)) Q E s:=by
 obtain⟨⟨cls,dd,data,sl⟩,ho,hc,n,hd⟩:=id hl
 obtain⟨⟨cls2,dd2,data2,sl2⟩,ho2,hc2,n2,hd2⟩:=id hb
 simp only at hc hd hc2 hd2
 subst hc hd hc2 hd2
 exact richCompare_meets_room (op:= .LtE) ⟨_,ho,rfl⟩ ⟨_,ho2,rfl⟩ PySem.F.slot_tuple_le PySem.F.entry_tuple_le (PySem.F.args_tuple_le_2 _ _) (jYr l b items items2 n n2 dd dd2 sl sl2 ns ms hi hj)
  ⟨ho,ho2,show Value.bool (lexLe ns ms)≠Value.notImplemented/\Q (.bool (lexLe ns ms)) s from⟨(fun x=>nomatch x),h⟩⟩ hu
end HT
namespace L3
open PySem PySem.Spec PyProof.Rows L2
variable {X:Cx}{G:Gp}{x y:T}{H:Hp}{a b:V}
theorem jQa {K:PySem.W.Frag} {H:Hp}:∀ {ns:List Int} {vs:List V},Reps K H (ns.map T.int) vs->vs=ns.map V.int
 | [],_,h=>h
 | n::ns,_,⟨v,ws,e,r,rs⟩=>by
  subst e;cases (show v= .int n from r)
  rw[jQa rs];rfl
def rLeT:R3:=fun x y G Q=>∃ns ms,x= .tup (ns.map T.int)/\y= .tup (ms.map T.int)/\Q (.bl (HT.lexLe ns ms)) G
theorem o_leT (hu:X.A.units<cLine):Op3 X (compareOp .LtE) rLeT:=by
 rintro pins s τ G H x y v u Q ⟨σ,I,hs,hg⟩ ⟨a,ra,rv⟩ ⟨b,rb,ru⟩ ⟨ns,ms,ex,ey,q⟩
 subst ex;subst ey
 obtain⟨p,vs,e1,h1,h2⟩:=(show ∃p vs,a= .ref p/\H p=some (.tup vs)/\Reps X.K H (ns.map T.int) vs from ra)
 obtain⟨p',ws,e2,h3,h4⟩:=(show ∃p vs,b= .ref p/\H p=some (.tup vs)/\Reps X.K H (ms.map T.int) vs from rb)
 subst e1;subst e2
 cases rv;cases ru
 rw[jQa h2] at h1
 rw[jQa h4] at h3
 obtain⟨its,r1,p1,_⟩:=I.tuple (.of h1)
 obtain⟨its2,r2,p2,_⟩:=I.tuple (.of h3)
 exact HT.le_tupInts p1 p2 (show IntsAre its.toArray.toList ns from jYn r1) (show IntsAre its2.toArray.toList ms from jYn r2) hu ⟨.bl _,G,H,.refl H,⟨σ,I,hs,hg⟩,⟨.bl _,rfl,rfl⟩,q⟩
def rLeI:R3:=rI0 fun i j=> .bl (decide (i<=j))
def rLeA:R3:=fun x y G Q=>rLeI x y G Q\/rLeT x y G Q
theorem o_leA (hu:X.A.units+20<cLine):Op3 X (compareOp .LtE) rLeA:=o_le.or (o_leT (by omega))
theorem kXn {b:Bool}(h:eqG G x y=some b):
  (∃p q xs ys,x= .ref p/\y= .ref q/\G p=some (.lst xs)/\G q=some (.lst ys)/\kKp xs=true/\kKp ys=true/\b=eqTs xs ys)\/(eqOk x=true/\eqOk y=true/\b=eqT x y):=by
 by_cases hr:∃p q,x= .ref p/\y= .ref q
 ·obtain⟨p,q,ex,ey⟩:=hr
  subst ex;subst ey
  refine .inl ?_
  simp only[eqG] at h
  split at h
  ·rename_i xs ys h1 h2
   split at h
   ·rename_i hc
    cases h
    exact⟨p,q,xs,ys,rfl,rfl,h1,h2,hc.1,hc.2,rfl⟩
   ·cases h
  ·cases h
 ·refine .inr ?_
  have e:eqG G x y=if eqOk x=true/\eqOk y=true then some (eqT x y) else none:=by
   cases x with
   | ref p=>cases y with
    | ref q=>exact absurd ⟨p,q,rfl,rfl⟩ hr
    | _=>rfl
   | _=>rfl
  rw[e] at h
  split at h
  ·rename_i hc
   cases h
   exact⟨hc.1,hc.2,rfl⟩
  ·cases h
mutual
theorem kJ2 {X:Cx} {pins:List (Addr×Obj)} {σ:L2.St} {H:Hp} {s:Shared} (I:Inv X pins σ H s):∀(x:T) {a:V} {u:Value},tree x=true->Rep X.K H x a->RelV a u->∃as,Reads s.heap u (td x) as
 | .non,a,u,_,r,q=>by cases (show a= .non from r);cases q;exact⟨_,.none⟩
 | .bl b,a,u,_,r,q=>by cases (show a= .bl b from r);cases q;exact⟨_,.bool b⟩
 | .int b,a,u,_,r,q=>by cases (show a= .int b from r);obtain⟨t,rfl⟩:=q;exact⟨_,.int b t⟩
 | .str b,a,u,_,r,q=>by cases (show a= .str b from r);obtain⟨t,rfl⟩:=q;exact⟨_,.str b t⟩
 | .tup xs,a,u,ht,r,q=>by
  obtain⟨p,vs,e1,h1,h2⟩:=(show ∃p vs,a= .ref p/\H p=some (.tup vs)/\Reps X.K H xs vs from r)
  subst e1;cases q
  obtain⟨its,rv,⟨o,ho,hc,n,hd⟩,_⟩:=I.tuple (.of h1)
  obtain⟨as,ra⟩:=jV2 I xs (show jKs xs=true from ht) h2 rv
  exact⟨_,.tuple ho hc hd (by simpa using ra)⟩
 | .ref _,_,_,ht,_,_=>absurd (show false=true from ht) Bool.false_ne_true
 | .scr _,_,_,ht,_,_=>absurd (show false=true from ht) Bool.false_ne_true
 | .ty _,_,_,ht,_,_=>absurd (show false=true from ht) Bool.false_ne_true
theorem jV2 {X:Cx} {pins:List (Addr×Obj)} {σ:L2.St} {H:Hp} {s:Shared} (I:Inv X pins σ H s):∀(xs:List T) {vs:List V} {us:List Value},jKs xs=true->Reps X.K H xs vs->Vals vs us->∃as,ReadsAll s.heap us (tds xs) as
 | [],_,_,_,r,q=>by cases r;cases q;exact⟨_,.nil⟩
 | x::xs,_,_,ht,⟨v,ws,e,r1,r2⟩,q=>by
  subst e
  cases q with
  | cons q1 q2=>
   have hx:tree x=true/\jKs xs=true:=by simpa[jKs] using ht
   obtain⟨as,ra⟩:=kJ2 I x hx.1 r1 q1
   obtain⟨bs,rb⟩:=jV2 I xs hx.2 r2 q2
   exact⟨_,.cons ra rb⟩
end
mutual
theorem eqv_T:∀(x y:T),tree x=true->tree y=true->PyData.eqv (td x) (td y)=eqT x y
 | .non,y,_,hy=>by cases y<;>first | rfl | exact absurd (show false=true from hy) Bool.false_ne_true
 | .bl b,y,_,hy=>by cases y<;>first | rfl | exact absurd (show false=true from hy) Bool.false_ne_true
 | .int b,y,_,hy=>by cases y<;>first | rfl | exact absurd (show false=true from hy) Bool.false_ne_true
 | .str b,y,_,hy=>by cases y<;>first | rfl | exact absurd (show false=true from hy) Bool.false_ne_true
 | .tup xs,y,hx,hy=>by
  cases y with
  | tup ys=>exact kXj xs ys (show jKs xs=true from hx) (show jKs ys=true from hy)
  | _=>first | rfl | exact absurd (show false=true from hy) Bool.false_ne_true
 | .ref _,_,ht,_=>absurd (show false=true from ht) Bool.false_ne_true
 | .scr _,_,ht,_=>absurd (show false=true from ht) Bool.false_ne_true
 | .ty _,_,ht,_=>absurd (show false=true from ht) Bool.false_ne_true
theorem kXj:∀(xs ys:List T),jKs xs=true->jKs ys=true->PyData.eqvAll (tds xs) (tds ys)=eqTs xs ys
 | [],[],_,_=>rfl
 | [],_::_,_,_=>rfl
 | _::_,[],_,_=>rfl
 | x::xs,y::ys,hx,hy=>by
  have hx':tree x=true/\jKs xs=true:=by simpa[jKs] using hx
  have hy':tree y=true/\jKs ys=true:=by simpa[jKs] using hy
  show (PyData.eqv (td x) (td y)&&PyData.eqvAll (tds xs) (tds ys))=(eqT x y&&eqTs xs ys)
  rw[eqv_T x y hx'.1 hy'.1,kXj xs ys hx'.2 hy'.2]
end
theorem kQo {pins:List (Addr×Obj)}{σ:L2.St}{s:Shared}{u v:Value}{k:Bool}(I:Inv X pins σ H s)(hg:GRel X.K H G)(ra:Rep X.K H x a)(rb:Rep X.K H y b)(ru:RelV a u)(rv:RelV b v)(h:eqG G x y=some k):
  ∃da db as bs,Reads s.heap u da as/\Reads s.heap v db bs/\da.canLay0=true/\db.canLay0=true/\da.depth<=50/\PyData.eqv da db=k:=by
 rcases kXn h with ⟨p,q,xs,ys,ex,ey,hp,hq,ox,oy,e⟩ | ⟨ox,oy,e⟩
 ·subst ex;subst ey
  cases (show a= .ref p from ra);cases (show b= .ref q from rb)
  cases ru;cases rv
  obtain⟨vs,h1,h2⟩:=hg.lst hp
  obtain⟨ws,h3,h4⟩:=hg.lst hq
  obtain⟨its,r1,⟨o,n,ho,hc,_,hd⟩,_⟩:=I.list (.of h1)
  obtain⟨its',r2,⟨o',n',ho',hc',_,hd'⟩,_⟩:=I.list (.of h3)
  simp only[kKp,Bool.and_eq_true,decide_eq_true_eq] at ox oy
  obtain⟨as,r3⟩:=jV2 I xs ox.1.1 h2 r1
  obtain⟨bs,r4⟩:=jV2 I ys oy.1.1 h4 r2
  exact⟨.list (tds xs),.list (tds ys),_,_,.list ho hc hd (by simpa using r3),.list ho' hc' hd' (by simpa using r4),ox.1.2,oy.1.2,ox.2,by rw[e];exact kXj xs ys ox.1.1 oy.1.1⟩
 ·simp only[eqOk,Bool.and_eq_true,decide_eq_true_eq] at ox oy
  obtain⟨as,r3⟩:=kJ2 I x ox.1.1 ra ru
  obtain⟨bs,r4⟩:=kJ2 I y oy.1.1 rb rv
  exact⟨td x,td y,_,_,r3,r4,ox.1.2,oy.1.2,ox.2,by rw[e];exact eqv_T x y ox.1.1 oy.1.1⟩
theorem jZa (hu:X.A.units+64<cLine):Op3 X (compareOp .Eq) rEqA:=by
 rintro pins s τ G H x y v u Q ⟨σ,I,hs,hg⟩ ⟨a,ra,rv⟩ ⟨b,rb,ru⟩ ⟨k,hk,q⟩
 obtain⟨da,db,as,bs,r1,r2,c1,c2,d,e⟩:=kQo I hg ra rb rv ru hk
 exact SeqAt.compareEq_reads r1 r2 c1 c2 (by omega) ⟨.bl k,G,H,.refl H,⟨σ,I,hs,hg⟩,⟨.bl k,rfl,by rw[e];rfl⟩,q⟩
theorem jY9 (hu:X.A.units+64<cLine):Op3 X (compareOp .NotEq) rNeA:=by
 rintro pins s τ G H x y v u Q ⟨σ,I,hs,hg⟩ ⟨a,ra,rv⟩ ⟨b,rb,ru⟩ ⟨k,hk,q⟩
 obtain⟨da,db,as,bs,r1,r2,c1,c2,d,e⟩:=kQo I hg ra rb rv ru hk
 exact SeqAt.compareNe_reads r1 r2 c1 c2 (by omega) ⟨.bl (!k),G,H,.refl H,⟨σ,I,hs,hg⟩,⟨.bl (!k),rfl,by rw[e];rfl⟩,q⟩
variable {K:PySem.W.Frag}{pos:Pos}
def jUr:T->Bool
 | .non=>true
 | .bl _=>true
 | .int _=>true
 | .str _=>true
 | _=>false
theorem jV3 (r:Rep K H x a)(f:jUr x=true):jYg a=true:=by
 cases x with
 | non=>cases (show a= .non from r);rfl
 | bl _=>cases (show a= .bl _ from r);rfl
 | int _=>cases (show a= .int _ from r);rfl
 | str _=>cases (show a= .str _ from r);rfl
 | _=>exact absurd (show false=true from f) Bool.false_ne_true
theorem kXf (r:Rep K H x a)(q:Rep K H y b)(f:jUr x=true)(g:jUr y=true):eqV a b=eqT x y:=by
 cases x with
 | non=>cases (show a= .non from r);cases y with
  | non=>cases (show b= .non from q);rfl
  | bl _=>cases (show b= .bl _ from q);rfl
  | int _=>cases (show b= .int _ from q);rfl
  | str _=>cases (show b= .str _ from q);rfl
  | _=>exact absurd (show false=true from g) Bool.false_ne_true
 | bl _=>cases (show a= .bl _ from r);cases y with
  | non=>cases (show b= .non from q);rfl
  | bl _=>cases (show b= .bl _ from q);rfl
  | int _=>cases (show b= .int _ from q);rfl
  | str _=>cases (show b= .str _ from q);rfl
  | _=>exact absurd (show false=true from g) Bool.false_ne_true
 | int _=>cases (show a= .int _ from r);cases y with
  | non=>cases (show b= .non from q);rfl
  | bl _=>cases (show b= .bl _ from q);rfl
  | int _=>cases (show b= .int _ from q);rfl
  | str _=>cases (show b= .str _ from q);rfl
  | _=>exact absurd (show false=true from g) Bool.false_ne_true
 | str _=>cases (show a= .str _ from r);cases y with
  | non=>cases (show b= .non from q);rfl
  | bl _=>cases (show b= .bl _ from q);rfl
  | int _=>cases (show b= .int _ from q);rfl
  | str _=>cases (show b= .str _ from q);rfl
  | _=>exact absurd (show false=true from g) Bool.false_ne_true
 | _=>exact absurd (show false=true from f) Bool.false_ne_true
def inT (x:T)(xs:List T):Bool:=xs.any fun y=>eqT y x
theorem jZe {K:PySem.W.Frag} {H:Hp} {x:T} {a:V} (r:Rep K H x a) (f:jUr x=true):∀ {xs:List T} {vs:List V},Reps K H xs vs->xs.all jUr=true->vs.all jYg=true/\inV a vs=inT x xs
 | [],_,h,_=>by cases h;exact⟨rfl,rfl⟩
 | y::ys,_,⟨v,ws,e,r1,r2⟩,g=>by
  subst e
  rw[List.all_cons,Bool.and_eq_true] at g
  obtain⟨h1,h2⟩:=jZe r f r2 g.2
  refine⟨by rw[List.all_cons,jV3 r1 g.1,h1];rfl,?_⟩
  unfold inV inT at h2 ⊢
  rw[List.any_cons,List.any_cons,kXf r1 r g.1 f,h2]
def rInF (neg:Bool):R3:=fun x y G Q=>∃xs,seqT G y=some xs/\jUr x=true/\xs.all jUr=true/\Q (.bl (if neg then !inT x xs else inT x xs)) G
theorem kV6 {neg:Bool}{op:CmpOp}(h:OpR X (compareOp op) (L2.rIn X.K neg)):Op3 X (compareOp op) (rInF neg):=
 Op3.of h fun H G x y a b Q hg ra rb ⟨xs,hx,fx,fs,q⟩=>by
  obtain⟨p,vs,e,hq,r⟩:=jQx hg rb hx
  obtain⟨h1,h2⟩:=jZe ra fx r fs
  exact⟨p,vs,e,hq,jV3 ra fx,h1,.bl _,G,.refl H,hg,by rw[h2];rfl,q⟩
theorem o_inF:Op3 X (compareOp .In) (rInF false):=kV6 kVj
theorem o_notInF:Op3 X (compareOp .NotIn) (rInF true):=kV6 jZ1
def jQu:T->Option Key
 | .int i=>some (.inl i)
 | .str x=>some (.inr x)
 | _=>none
def allK {K:Type} (f:T->Option K):List T->Option (List K)
 | []=>some []
 | x::xs=>match f x,allK f xs with
  | some k,some ks=>some (k::ks)
  | _,_=>none
def key1:T->Option K1
 | .tup ts=>(allK jQu ts).map .inr
 | x=>(jQu x).map .inl
def key2:T->Option K2
 | .tup ts=>(allK key1 ts).map .inr
 | x=>(jQu x).map .inl
def jXv:List T->Option TKey:=allK key2
theorem jKl {k:Key}(h:jQu x=some k)(r:Rep K H x a):a=kV k:=by
 cases x with
 | int i=>cases h;exact r
 | str i=>cases h;exact r
 | non=>cases h
 | bl _=>cases h
 | tup _=>cases h
 | scr _=>cases h
 | ref _=>cases h
 | ty _=>cases h
theorem jV8 {K:PySem.W.Frag} {H:Hp} {κ:Type} {f:T->Option κ} {R:κ->V->Prop} (hf:∀x k a,f x=some k->Rep K H x a->R k a):∀ {xs:List T} {vs:List V} {ks:List κ},allK f xs=some ks->Reps K H xs vs->Paired R ks vs
 | [],_,_,h,r=>by cases h;cases (show _=[] from r);exact .nil
 | x::xs,_,ks,h,⟨v,ws,e,r1,r2⟩=>by
  subst e
  unfold allK at h
  cases e1:f x with
  | none=>rw[e1] at h;cases h
  | some k=>
   cases e2:allK f xs with
   | none=>rw[e1,e2] at h;cases h
   | some ks'=>
    rw[e1,e2] at h;cases h
    exact .cons (hf _ _ _ e1 r1) (jV8 hf e2 r2)
theorem kZn (x:T)(k:K1)(a:V)(h:key1 x=some k)(r:Rep K H x a):Rk1 H k a:=by
 cases x with
 | tup ts=>
  obtain⟨ks,h1,rfl⟩:=Option.map_eq_some_iff.mp (show (allK jQu ts).map Sum.inr=some k from h)
  obtain⟨p,vs,e,h3,h4⟩:=(show ∃p vs,a= .ref p/\H p=some (.tup vs)/\Reps K H ts vs from r)
  exact⟨p,vs,e,h3,jV8 (fun x k a h r=>jKl h r) h1 h4⟩
 | int i=>cases h;exact r
 | str i=>cases h;exact r
 | non=>cases h
 | bl _=>cases h
 | scr _=>cases h
 | ref _=>cases h
 | ty _=>cases h
theorem kZm (x:T)(k:K2)(a:V)(h:key2 x=some k)(r:Rep K H x a):Rk2 H k a:=by
 cases x with
 | tup ts=>
  obtain⟨ks,h1,rfl⟩:=Option.map_eq_some_iff.mp (show (allK key1 ts).map Sum.inr=some k from h)
  obtain⟨p,vs,e,h3,h4⟩:=(show ∃p vs,a= .ref p/\H p=some (.tup vs)/\Reps K H ts vs from r)
  exact⟨p,vs,e,h3,jV8 kZn h1 h4⟩
 | int i=>cases h;exact r
 | str i=>cases h;exact r
 | non=>cases h
 | bl _=>cases h
 | scr _=>cases h
 | ref _=>cases h
 | ty _=>cases h
theorem jVl {xs:List T}{vs:List V}{ks:TKey}{p:Addr}(h:jXv xs=some ks)(e:H p=some (.tup vs))(r:Reps K H xs vs):TKeyAt H ks p:=⟨vs,e,jV8 kZm h r⟩
def valT {κ:Type}[DecidableEq κ](kvs:List (κ×T))(k:κ):Option T:=(kvs.find? fun kv=>decide (kv.1=k)).map (·.2)
noncomputable def putT {κ:Type}[DecidableEq κ](kvs:List (κ×T))(k:κ)(v:T):List (κ×T):=
 if (kvs.any fun kv=>decide (kv.1=k))=true then kvs.map (fun kv=>if kv.1=k then (kv.1,v) else kv) else kvs++[(k,v)]
theorem PKV.val {κ:Type}[DecidableEq κ]{kvs:List (κ×T)}{ws:List (κ×V)}(r:PKV K H kvs ws)(k:κ):(∀t,valT kvs k=some t->∃v,valV ws k=some v/\Rep K H t v)/\(valT kvs k).isSome=(valV ws k).isSome:=by
 unfold PKV at r
 induction r with
 | nil=>exact⟨fun t h=>by simp[valT] at h,rfl⟩
 | @cons p q ps qs h t ih=>
  by_cases e:p.1=k
  ·have e':q.1=k:=h.1.symm.trans e
   have b:valT (p::ps) k=some p.2:=by simp[valT,List.find?_cons,e]
   rw[b,jVx e']
   exact⟨fun t ht=>by cases ht;exact⟨q.2,rfl,h.2⟩,rfl⟩
  ·have e':¬ q.1=k:=fun z=>e (h.1.trans z)
   have b:valT (p::ps) k=valT ps k:=by simp[valT,List.find?_cons,e]
   rw[b,jVy e']
   exact ih
theorem PKV.any {κ:Type}[DecidableEq κ]{kvs:List (κ×T)}{ws:List (κ×V)}(r:PKV K H kvs ws)(k:κ):(kvs.any fun kv=>decide (kv.1=k))=ws.any fun kv=>decide (kv.1=k):=by
 unfold PKV at r
 induction r with
 | nil=>rfl
 | cons h t ih=>rw[List.any_cons,List.any_cons,ih,h.1]
theorem PKV.put {κ:Type}[DecidableEq κ]{kvs:List (κ×T)}{ws:List (κ×V)}(r:PKV K H kvs ws)(k:κ){t:T}{v:V}(rt:Rep K H t v):PKV K H (putT kvs k t) (putK ws k v):=by
 unfold putT putK
 rw[r.any k]
 by_cases e:(ws.any fun kv=>decide (kv.1=k))=true
 ·rw[if_pos e,if_pos e]
  unfold PKV at r ⊢
  clear e
  induction r with
  | nil=>exact .nil
  | @cons p q ps qs h t' ih=>
   rw[List.map_cons,List.map_cons]
   refine .cons ?_ ih
   obtain⟨h1,h2⟩:=h
   by_cases e:p.1=k
   ·rw[if_pos e,if_pos (h1.symm.trans e)];exact⟨h1,rt⟩
   ·rw[if_neg e,if_neg (fun z=>e (h1.trans z))];exact⟨h1,h2⟩
 ·rw[if_neg e,if_neg e];exact Paired.snoc r ⟨rfl,rt⟩
theorem PKV.length {κ:Type}{kvs:List (κ×T)}{ws:List (κ×V)}(r:PKV K H kvs ws):kvs.length=ws.length:=Paired.length r
noncomputable def dAt (G:Gp)(x y:T):Option (Option T):=match x with
 | .ref p=>match G p with
  | some (.dct kvs)=>match y with
   | .tup ys=>match jXv ys with
    | some ks=>some (valT kvs ks)
    | none=>none
   | _=>none
  | some (.dck kvs)=>match jQu y with
   | some k=>some (valT kvs k)
   | none=>none
  | some (.fdc kvs)=>match y with
   | .tup ys=>match jXv ys with
    | some ks=>some (valT kvs ks)
    | none=>none
   | _=>none
  | _=>none
 | _=>none
theorem jX3 {o:Option T}(hg:GRel K H G)(ra:Rep K H x a)(rb:Rep K H y b)(h:dAt G x y=some o):
  ∃p ov,a= .ref p/\DGet H p b ov/\o.isSome=ov.isSome/\∀t,o=some t->∃v,ov=some v/\Rep K H t v:=by
 unfold dAt at h
 split at h
 ·rename_i p
  cases (show a= .ref p from ra)
  split at h
  ·rename_i kvs hG
   split at h
   ·rename_i ys
    split at h
    ·rename_i ks hk
     cases h
     obtain⟨ws,h1,h2⟩:=hg p _ hG
     obtain⟨q,vs,e,h3,h4⟩:=(show ∃q vs,b= .ref q/\H q=some (.tup vs)/\Reps K H ys vs from rb)
     subst e
     exact⟨p,_,rfl,DGet.t h1 (jVl hk h3 h4),(h2.val ks).2,(h2.val ks).1⟩
    ·cases h
   ·cases h
  ·rename_i kvs hG
   split at h
   ·rename_i k hk
    cases h
    obtain⟨ws,h1,h2⟩:=hg p _ hG
    rw[jKl hk rb]
    exact⟨p,_,rfl,DGet.k h1,(h2.val k).2,(h2.val k).1⟩
   ·cases h
  ·rename_i kvs hG
   split at h
   ·rename_i ys
    split at h
    ·rename_i ks hk
     cases h
     obtain⟨ob,ws,h1,h2⟩:=(show ∃ob ws,H p=some (.frz ob (.dT ws))/\PKV K H kvs ws from hg p _ hG)
     obtain⟨q,vs,e,h3,h4⟩:=(show ∃q vs,b= .ref q/\H q=some (.tup vs)/\Reps K H ys vs from rb)
     subst e
     exact⟨p,_,rfl,.inr ⟨ws,ks,q,.inr ⟨ob,h1⟩,rfl,jVl hk h3 h4,rfl⟩,(h2.val ks).2,(h2.val ks).1⟩
    ·cases h
   ·cases h
  ·cases h
 ·cases h
def rDGet:R3:=fun x y G Q=>∃t,dAt G x y=some (some t)/\Q t G
theorem qKk (hu:X.A.units+20<cLine):Ix3 X rDGet:=by
 rintro value slice pins s τ G H x y v u Q ⟨σ,I,hs,hg⟩ ⟨a,ra,rv⟩ ⟨b,rb,ru⟩ ⟨t,hd,q⟩ hsl
 obtain⟨p,ov,e,g,_,hh⟩:=jX3 hg ra rb hd
 obtain⟨w,ew,rw'⟩:=hh t rfl
 subst e;subst ew
 cases rv
 have hT:s.TypeIs (.ref p) "dict":=kKv I g
 unfold subscriptTail
 refine wpAny_bind ?_
 rw[getitemInPython_of_ne hT.not_modules]
 refine wpAny_bind (wpAny_specialOf hT PySem.F.slot_dict_getitem.lookup ?_)
 have fin:wpAny (model X.prog X.w) X.A (subscripted slice false (.ref p) u) (fun r s₃=>wpAny (model X.prog X.w) X.A (letTemporaryGo value (.ref p) r >>= fun _=>pure r) (EP3 X pins τ H Q) X.xe s₃) X.xe s:=by
  rw[hsl]
  exact wpAny_operating (kXu hu I g ru fun w' s' I' r'=>wpAny_bind (wpAny_letTemporaryGo (wpAny_pure ⟨t,G,H,.refl H,⟨σ,I',hs,hg⟩,⟨w,rw',r'⟩,q⟩)))
 first
  | exact wpAny_pure (wpAny_bind fin)
  | exact wpAny_bind (wpAny_pure (wpAny_bind fin))
  | exact wpAny_bind fin
theorem Ix3.or {r r':R3}(h:Ix3 X r)(h':Ix3 X r'):Ix3 X (fun x y G Q=>r x y G Q\/r' x y G Q):=by
 intro value slice pins s τ G H x y v u Q I rx ry q hs
 rcases q with q | q
 ·exact h value slice pins s τ G H x y v u Q I rx ry q hs
 ·exact h' value slice pins s τ G H x y v u Q I rx ry q hs
def rIxA:R3:=fun x y G Q=>rIx x y G Q\/rDGet x y G Q
theorem qKl (hu:X.A.units+20<cLine):Ix3 X rIxA:=ix_any.or (qKk hu)
def rDIn:R3:=fun x y G Q=>∃o,dAt G y x=some o/\Q (.bl o.isSome) G
def kVh:R3:=fun x y G Q=>∃o,dAt G y x=some o/\Q (.bl (!o.isSome)) G
theorem o_dIn (hu:X.A.units+20<cLine):Op3 X (compareOp .In) rDIn:=by
 rintro pins s τ G H x y v u Q ⟨σ,I,hs,hg⟩ ⟨a,ra,rv⟩ ⟨b,rb,ru⟩ ⟨o,hd,q⟩
 obtain⟨p,ov,e,g,e2,_⟩:=jX3 hg rb ra hd
 subst e;cases ru
 exact d_in hu I g rv fun s' I'=>⟨.bl _,G,H,.refl H,⟨σ,I',hs,hg⟩,⟨.bl _,rfl,by rw[<-e2];rfl⟩,q⟩
theorem kZa (hu:X.A.units+20<cLine):Op3 X (compareOp .NotIn) kVh:=by
 rintro pins s τ G H x y v u Q ⟨σ,I,hs,hg⟩ ⟨a,ra,rv⟩ ⟨b,rb,ru⟩ ⟨o,hd,q⟩
 obtain⟨p,ov,e,g,e2,_⟩:=jX3 hg rb ra hd
 subst e;cases ru
 exact qK7 hu I g rv fun s' I'=>⟨.bl _,G,H,.refl H,⟨σ,I',hs,hg⟩,⟨.bl _,rfl,by rw[<-e2];rfl⟩,q⟩
def rInL:R3:=fun x y G Q=>rInF false x y G Q\/rDIn x y G Q
def kVf:R3:=fun x y G Q=>rInF true x y G Q\/kVh x y G Q
theorem o_in (hu:X.A.units+20<cLine):Op3 X (compareOp .In) rInL:=o_inF.or (o_dIn hu)
theorem qKd (hu:X.A.units+20<cLine):Op3 X (compareOp .NotIn) kVf:=o_notInF.or (kZa hu)
def jXc:TE3:=fun _ G Q=>(∀p,G p=none->Q (.ref p) (gup G p (.dct [])))\/∀p,G p=none->Q (.ref p) (gup G p (.dck []))
theorem e_dct:PE3 X (.Dict [] [] pos) jXc:=by
 rintro pins s τ G H Q ⟨σ,I,hs,hg⟩ h
 rcases h with h | h
 ·exact thn (kY3 pins s σ H (up X.K H Q) I fun p hp=>⟨.ref p,_,.upd (.none hp),hg.upd (.none hp) (go:= .dct []) ⟨[],jJn,.nil⟩,rfl,h p (hg.fresh hp)⟩) fun u s' z=>jQo hs z
 ·exact thn (kY4 pins s σ H (up X.K H Q) I fun p hp=>⟨.ref p,_,.upd (.none hp),hg.upd (.none hp) (go:= .dck []) ⟨[],jJn,.nil⟩,rfl,h p (hg.fresh hp)⟩) fun u s' z=>jQo hs z
noncomputable def qJa:T->T->T->Gp->(Gp->Prop)->Prop:=fun o i v G Q=>∃p ys ks kvs,o= .ref p/\i= .tup ys/\jXv ys=some ks/\G p=some (.dct kvs)/\kvs.length<sizeLine/\Q (gup G p (.dct (putT kvs ks v)))
def qJb:T->T->T->Gp->(Gp->Prop)->Prop:=fun o i v G Q=>∃p k kvs,o= .ref p/\jQu i=some k/\G p=some (.dck kvs)/\kvs.length<sizeLine/\Q (gup G p (.dck (putT kvs k v)))
theorem qJz (hu:X.A.units+20<cLine):Set3 X qJa:=by
 rintro pins s τ G H o i v ov iv u Q ⟨σ,I,hs,hg⟩ ⟨a,ra,rv⟩ ⟨b,rb,ru⟩ ⟨c,rc,rw'⟩ ⟨p,ys,ks,kvs,eo,ei,hk,hG,hz,q⟩
 subst eo;subst ei
 cases (show a= .ref p from ra);cases rv
 obtain⟨ws,h1,h2⟩:=hg p _ hG
 obtain⟨b',vs,e,h3,h4⟩:=(show ∃q vs,b= .ref q/\H q=some (.tup vs)/\Reps X.K H ys vs from rb)
 subst e
 have h3:=jVl hk h3 h4
 have e:Ext H (upd H p (.dT (putK ws ks c))):= .upd (.dT h1)
 exact kJn hu I (DPut.t h1 h3 (by rw[<-h2.length];exact hz)) ru rw' fun s' I'=>⟨_,_,e,⟨σ,I',hs.mono e,hg.upd (.dT h1) (go:= .dct (putT kvs ks v)) ⟨_,jJn,(h2.put ks rc).mono e⟩⟩,q⟩
theorem qJ0 (hu:X.A.units+20<cLine):Set3 X qJb:=by
 rintro pins s τ G H o i v ov iv u Q ⟨σ,I,hs,hg⟩ ⟨a,ra,rv⟩ ⟨b,rb,ru⟩ ⟨c,rc,rw'⟩ ⟨p,k,kvs,eo,hk,hG,hz,q⟩
 subst eo
 cases (show a= .ref p from ra);cases rv
 obtain⟨ws,h1,h2⟩:=hg p _ hG
 have eb:=jKl hk rb
 subst eb
 have e:Ext H (upd H p (.dK (putK ws k c))):= .upd (.dK h1)
 exact kJn hu I (DPut.k h1 (by rw[<-h2.length];exact hz)) ru rw' fun s' I'=>⟨_,_,e,⟨σ,I',hs.mono e,hg.upd (.dK h1) (go:= .dck (putT kvs k v)) ⟨_,jJn,(h2.put k rc).mono e⟩⟩,q⟩
theorem Set3.or {r r':T->T->T->Gp->(Gp->Prop)->Prop}(h:Set3 X r)(h':Set3 X r'):Set3 X (fun o i v G Q=>r o i v G Q\/r' o i v G Q):=by
 intro pins s τ G H o i v ov iv u Q I ro ri rv q
 rcases q with q | q
 ·exact h pins s τ G H o i v ov iv u Q I ro ri rv q
 ·exact h' pins s τ G H o i v ov iv u Q I ro ri rv q
def rSetA:T->T->T->Gp->(Gp->Prop)->Prop:=fun o i v G Q=>kYz o i v G Q\/qJa o i v G Q\/qJb o i v G Q
theorem s_any (hu:X.A.units+20<cLine):Set3 X rSetA:=s_list.or ((qJz hu).or (qJ0 hu))
variable {e:Expr}{te:TE3}
abbrev TO3:=St3->Gp->(Option Int->Gp->Prop)->Prop
noncomputable def PO3 (X:Cx)(e:Option Expr)(t:TO3):Prop:=
 ∀(pins:List (Addr×Obj)) (s:Shared) (τ:St3) (G:Gp) (H:Hp) (Q:Option Int->Gp->Prop),Inv3 X pins τ G H s->t τ G Q->
  wpAny (model X.prog X.w) X.A (evalPart e X.env) (fun u s'=>∃o G' H',Ext H H'/\Inv3 X pins τ G' H' s'/\IsPart u o/\Q o G') X.xe s
def kYn (t:TE3):TO3:=fun τ G Q=>t τ G fun x G1=>∃i,x= .int i/\Q (some i) G1
theorem qJc (h:PE3 X e te):PO3 X (some e) (kYn te):=by
 intro pins s τ G H Q I hw
 rw[evalPart_some]
 refine thn (h pins s τ G H _ I hw) fun u s1 w_=>w_.el fun x G1 H1 e1 I1 r_ ⟨i,ex,q⟩=>r_.el fun v rv ru=> ?_
 subst ex
 cases (show v= .int i from rv)
 obtain⟨t,rfl⟩:=ru
 exact⟨some i,G1,H1,e1,I1,.int i t,q⟩
noncomputable def Sl3 (X:Cx)(r:T->Option Int->Option Int->Gp->VK3->Prop):Prop:=
 ∀(pins:List (Addr×Obj)) (s:Shared) (τ:St3) (G:Gp) (H:Hp) (x:T) (v vl vu:Value) (lo hi:Option Int) (sl:Addr) (Q:VK3),Inv3 X pins τ G H s->RU X.K H x v->s.heap.IsSliceOf sl vl vu .none->IsPart vl lo->IsPart vu hi->r x lo hi G Q->
  ∃T id,typeLookup (.type T) "__getitem__"=pure (some (.builtin id))/\s.TypeIs v T/\wpAny (model X.prog X.w) X.A (getItem v (.ref sl)) (EP3 X pins τ H Q) X.xe s
def tSl (r:T->Option Int->Option Int->Gp->VK3->Prop)(te:TE3)(tl th:TO3):TE3:=fun τ G Q=>te τ G fun x G1=>tl τ G1 fun l G2=>th τ G2 fun u G3=>r x l u G3 Q
theorem qK1 {r:T->Option Int->Option Int->Gp->VK3->Prop}{lo hi:Option Expr}{tl th:TO3}{p2:Pos}(hr:Sl3 X r)(he:PE3 X e te)(hl:PO3 X lo tl)(hu:PO3 X hi th):PE3 X (.Subscript e (.Slice lo hi none p2) pos) (tSl r te tl th):=by
 intro pins s τ G H Q I h
 refine Subscript_ (thn (he pins s τ G H _ I h) fun v s1 w_=>w_.el fun x G1 H1 e1 I1 r1 q1=> ?_)
 refine wpAny_Slice (thn (hl pins s1 τ G1 H1 _ I1 q1) fun vl s2 ⟨l,G2,H2,e2,I2,pl,q2⟩=>thn (hu pins s2 τ G2 H2 _ I2 q2) fun vu s3 ⟨u,G3,H3,e3,⟨σ,I3,hs3,hg3⟩,pu,q3⟩=> ?_)
 rw[evalPart_none]
 refine wpAny_pure ?_
 have I4:Inv X pins σ H3 {s3 with heap:=s3.heap.push {cls:= .type "slice",data:= .fields #[vl,vu,.none]} }:=I3.kept (t':=s3.toks) fun b ob q=>Heap.get?_push_of_some _ q
 obtain⟨T0,id,hT,ht,hg⟩:=hr pins {s3 with heap:=s3.heap.push {cls:= .type "slice",data:= .fields #[vl,vu,.none]} } τ G3 H3 x v vl vu l u s3.heap.objs.size Q ⟨σ,I4,hs3,hg3⟩ ((r1.mono e2).mono e3) (Heap.IsSliceOf.new ..) pl pu q3
 show wpAny (model X.prog X.w) X.A (subscriptTail e (.Slice lo hi none p2) v (.ref s3.heap.objs.size)) (EP3 X pins τ H Q) X.xe {s3 with heap:=s3.heap.push {cls:= .type "slice",data:= .fields #[vl,vu,.none]} }
 exact thn (tail_any (ops:=[.ref s3.heap.objs.size,v]) ht hT hg (by with_unfolding_all rfl)) fun _ _ z=>z.ext ((e1.trans e2).trans e3)
def cutT (xs:List T)(lo hi:Option Int):List T:=(xs.drop (HT.sIx xs.length 0 lo)).take (HT.sIx xs.length xs.length hi-HT.sIx xs.length 0 lo)
noncomputable def rSlA:T->Option Int->Option Int->Gp->VK3->Prop:=fun x lo hi G Q=>
 (∃xs,jVk G x=some xs/\∀p,G p=none->Q (.ref p) (gup G p (.lst (cutT xs lo hi))))\/∃xs,x= .tup xs/\Q (.tup (cutT xs lo hi)) G
end L3
namespace HT
open PySem PyProof.Rows
theorem getItem_tuple_whole {prog:Program}{w:World}{A:Around}{E:Value->Shared->Prop}{s:Shared}{t sl:Addr}{items:Array Value}{vl vu:Value}{lo hi:Option Int}{Q:Value->Shared->Prop}(ht:IsTup s.heap t items)(hs:s.heap.IsSliceOf sl vl vu .none)(pl:IsPart vl lo)(pu:IsPart vu hi)(hw:sIx items.size 0 lo=0/\sIx items.size items.size hi=items.size)(h:Q (.ref t) s):wpAny (model prog w) A (getItem (.ref t) (.ref sl)) Q E s:=by
 obtain⟨os,hos,hcs,hds⟩:=id hs
 have hTs:s.TypeIs (.ref sl) "slice":=⟨os,hos,hcs⟩
 unfold getItem
 try with_reducible refine wpAny_holding ?_
 first | refine wpAny_bind (wpAny_pure ?_) | skip
 refine wpAny_bind (wpAny_sequenceKey ht.typeIs (by decide) ?_)
 refine wpAny_bind (wpAny_callSpecial?_slot (name:=Str.ofString "__getitem__") ht.typeIs PyProof.Rows.slot_tuple_getitem
  (wpAny_call_entry PyProof.Rows.slot_tuple_getitem ht.typeIs entry_tuple_getitem ?_ (args_tuple_getitem _ _)))
 show wpAny _ _ (Builtin.Tuple.tupleItemsOf (.ref t) >>= _) _ _ s
 refine wpAny_bind (tupleItemsOf_ ht ?_)
 refine wpAny_bind (wpAny_typeOf hTs ?_)
 rw[if_pos (by decide)]
 refine wpAny_bind (jQs hs pl pu ?_)
 have hyes:(((sIx items.size 0 lo:Nat):Int) == 0&&(1:Int) == 1&&(sIx items.size items.size hi-sIx items.size 0 lo) == items.size)=true:=by
  rw[hw.1,hw.2];simp
 show wpAny _ _ (if (((sIx items.size 0 lo:Nat):Int) == 0&&(1:Int) == 1&&(sIx items.size items.size hi-sIx items.size 0 lo) == items.size)=true then _ else _) _ _ s
 rw[if_pos hyes]
 refine wpAny_bind ?_
 unfold Builtin.Tuple.tupleIsExact
 refine wpAny_bind (wpAny_typeOf ht.typeIs (wpAny_pure ?_))
 rw[if_pos (by decide)]
 exact wpAny_bind (wpAny_rule (wpAny_pure ⟨_,rfl,wpAny_pure h⟩))
end HT
namespace L3
open PySem PySem.Spec PyProof.Rows L2
variable {X:Cx}{xs:List T}
theorem Reps.cut {K:PySem.W.Frag}{H:Hp}{vs:List V}(r:Reps K H xs vs)(lo hi:Option Int):Reps K H (cutT xs lo hi) (cutV vs lo hi):=by
 unfold cutT cutV
 rw[<-r.length]
 exact (r.drop _).take _
theorem kUm {lo hi:Option Int}(h:HT.sIx xs.length 0 lo=0/\HT.sIx xs.length xs.length hi=xs.length):cutT xs lo hi=xs:=by
 unfold cutT
 rw[h.1,h.2]
 simp
theorem sl_any:Sl3 X rSlA:=by
 rintro pins s τ G H x v vl vu lo hi sl Q ⟨σ,I,hs,hg⟩ ⟨a,ra,rv⟩ hsl pl pu h
 rcases h with ⟨xs,hx,q⟩ | ⟨xs,ex,q⟩
 ·obtain⟨p,vs,e,hq,r⟩:=jQr hg ra hx
  subst e
  obtain⟨T0,id,h1,h2,h3⟩:=qJx pins s σ H (.ref p) v vl vu lo hi sl (up X.K H Q) I rv hsl pl pu ⟨p,vs,rfl,hq,fun l hl=>⟨.ref l,_,.upd (.none hl),hg.lstNew (r.cut lo hi) (.none hl),rfl,q l (hg.fresh hl)⟩⟩
  exact⟨T0,id,h1,h2,thn h3 fun _ _ z=>jQo hs z⟩
 ·subst ex
  obtain⟨p,vs,e,h1,h2⟩:=(show ∃p vs,a= .ref p/\H p=some (.tup vs)/\Reps X.K H xs vs from ra)
  subst e
  by_cases hw:HT.sIx xs.length 0 lo=0/\HT.sIx xs.length xs.length hi=xs.length
  ·cases rv
   obtain⟨its,rv',ht,hz⟩:=I.tuple (.of h1)
   have hlen:its.toArray.size=xs.length:=by rw[List.size_toArray,<-rv'.length,h2.length]
   refine⟨"tuple",_,PyProof.Rows.slot_tuple_getitem.lookup,ht.typeIs,HT.getItem_tuple_whole ht hsl pl pu (by rw[hlen];exact hw) ?_⟩
   rw[kUm hw] at q
   exact⟨.tup xs,G,H,.refl H,⟨σ,I,hs,hg⟩,⟨.ref p,ra,rfl⟩,q⟩
  ·obtain⟨T0,id,h3,h4,h5⟩:=sl_tup pins s σ H (.ref p) v vl vu lo hi sl (up X.K H Q) I rv hsl pl pu ⟨p,vs,rfl,.of h1,by rw[<-h2.length];exact hw,fun l hl=>⟨.tup (cutT xs lo hi),G,.upd (.none hl),hg.tupNew hl,Rep.tupNew (h2.cut lo hi) hl,q⟩⟩
   exact⟨T0,id,h3,h4,thn h5 fun _ _ z=>jQo hs z⟩
def insT (xs:List T)(k:Nat)(y:T):List T:=xs.take k++y::xs.drop k
noncomputable def qJ3:T->List T->Gp->VK3->Prop:=fun x as G Q=>∃p xs k y,x= .ref p/\as=[.int k,y]/\G p=some (.lst xs)/\0<=k/\k<=xs.length/\xs.length<sizeLine/\Q .non (gup G p (.lst (insT xs k.toNat y)))
structure Cal (P:Program) (w:World) (K:PySem.W.Frag) (mg:Str->Option Value) (base:Heap) (k:Nat) (x:Str) (ps:List Str) (sp:Sp3):Prop where
 ex:∃f fd,Fn3 P w K mg base k f fd ps sp/\mg x=some (.ref f)/\PySem.W.keepIn K (.ref f)=true/\Binds K fd ps []
 mono:Mono sp
 len:∀xs G Q,sp xs G Q->xs.length=ps.length
theorem jKo {k:Nat}{ps:List Str}{sp:Sp3}{x:Str}{p pos:Pos}{e:Expr}{es:List Expr}{t:TA3}(C:Cal X.prog X.w X.K X.mg X.base k x ps sp)(hr:Room k X.A)(ha:PA3 X (e::es) t)(hg:Gl X x:=by rfl)(hdb:(x == ("__debug__":Str))=false:=by decide)(he:starEach (e::es) X.env=(false,eval e X.env)::starEach es X.env:=by rfl)(hpl:(backTo pos (starEach es X.env)).any (·.1)=false:=by rfl):
  PE3 X (.Call (.Name x p) (e::es) [] pos) (jJr sp t):=by
 intro pins s τ G H Q I h
 obtain⟨f,fd,F,hm,hk,hb⟩:=C.ex
 obtain⟨σ0,I0,hs0,hg0⟩:=id I
 refine wpAny_Call_Name_kw (jUn I0 hg hm ?_ hdb)
 refine PySem.W.callWith_K (h₀:=X.base) I0.ok.mod.kin hk (thn (ha pos pins s τ G H _ I h) fun us s1 w_=>w_.el fun xs G1 H1 e1 i_ r_ q=>i_.el fun σ I1 hs1 hg1=>r_.el fun as ras rvs=>⟨I1.kIn,?_⟩) he hpl
 refine thn (kVb (dvs:=[]) (ds:=[]) (E:=E0) (Q:=up X.K H1 Q) F hr hb .nil kY5 I1 rvs ?_) fun u s' z=>(jQo hs1 z).ext e1
 rw[List.append_nil]
 exact⟨by rw[<-ras.length];exact C.len _ _ _ q,xs,G1,ras,hg1,C.mono _ _ _ _ (fun t G' hq v H' e g r=>⟨t,G',e,g,r,hq⟩) q⟩
end L3
namespace L3
open PySem PySem.Spec PyProof.Rows
inductive Res where
 | val (t:T) | newL (xs:List T)
def fin3:Res->Gp->VK3->Prop
 | .val t,G,Q=>Q t G
 | .newL xs,G,Q=>∀p,G p=none->Q (.ref p) (gup G p (.lst xs))
variable {X:L2.Cx}{r r':R3}
theorem Op3.imp {f:Value->Value->Sem Value}(h:Op3 X f r)(i:∀x y G Q,r' x y G Q->r x y G Q):Op3 X f r':=fun pins s τ G H x y v u Q I rx ry q=>h pins s τ G H x y v u Q I rx ry (i x y G Q q)
theorem Ix3.imp (h:Ix3 X r)(i:∀x y G Q,r' x y G Q->r x y G Q):Ix3 X r':=fun a b pins s τ G H x y v u Q I rx ry q hs=>h a b pins s τ G H x y v u Q I rx ry (i x y G Q q) hs
theorem Set3.imp {r r':T->T->T->Gp->(Gp->Prop)->Prop}(h:Set3 X r)(i:∀o j v G Q,r' o j v G Q->r o j v G Q):Set3 X r':=fun pins s τ G H o j v a b c Q I ro rj rv q=>h pins s τ G H o j v a b c Q I ro rj rv (i o j v G Q q)
theorem Sl3.imp {r r':T->Option Int->Option Int->Gp->VK3->Prop}(h:Sl3 X r)(i:∀x l u G Q,r' x l u G Q->r x l u G Q):Sl3 X r':=fun pins s τ G H x v vl vu lo hi sl Q I rx hs pl pu q=>h pins s τ G H x v vl vu lo hi sl Q I rx hs pl pu (i x lo hi G Q q)
noncomputable def addR (G:Gp):T->T->Option Res
 | .int i,.int j=>some (.val (.int (i+j)))
 | .ref p,.ref q=>match G p,G q with
  | some (.lst xs),some (.lst ys)=>if xs.length+ys.length<=sizeLine then some (.newL (xs++ys)) else none
  | _,_=>none
 | .tup xs,.tup ys=>if xs.length≠0/\xs.length+ys.length<=sizeLine then some (.val (.tup (xs++ys))) else none
 | _,_=>none
def jKu:R3:=fun x y G Q=>∃r,addR G x y=some r/\fin3 r G Q
variable {x y:T}{G:Gp}{Q:VK3}
theorem add_F (h:jKu x y G Q):rAddA x y G Q:=by
 obtain⟨r,hr,q⟩:=h
 unfold addR at hr
 split at hr
 ·cases hr;exact .inl ⟨_,_,rfl,rfl,q⟩
 ·rename_i p q'
  split at hr
  ·rename_i xs ys h1 h2
   split at hr
   ·rename_i hz;cases hr;exact .inr (.inl ⟨p,q',xs,ys,rfl,rfl,h1,h2,hz,q⟩)
   ·cases hr
  ·cases hr
 ·rename_i xs ys
  split at hr
  ·rename_i hz;cases hr;exact .inr (.inr ⟨xs,ys,rfl,rfl,fun z=>hz.1 (by rw[z];rfl),hz.2,q⟩)
  ·cases hr
 ·cases hr
theorem o_addF:Op3 X (binaryOp .Add) jKu:=o_addA.imp fun _ _ _ _=>add_F
noncomputable def mulR (G:Gp):T->T->Option Res
 | .int i,.int j=>some (.val (.int (i*j)))
 | .ref p,.int n=>match G p with
  | some (.lst xs)=>if n.toNat * xs.length<=sizeLine/\n<2^62/\ -(2^62)<n then some (.newL (List.replicate n.toNat xs).flatten) else none
  | _=>none
 | _,_=>none
def mulC:T->T->Prop
 | .int i,.int j=>L2.CMul i j
 | _,_=>True
def jVu:R3:=fun x y G Q=>∃r,mulR G x y=some r/\mulC x y/\fin3 r G Q
theorem mul_F (h:jVu x y G Q):rMulA x y G Q:=by
 obtain⟨r,hr,c,q⟩:=h
 unfold mulR at hr
 split at hr
 ·cases hr;exact .inl ⟨_,_,rfl,rfl,c,q⟩
 ·rename_i p n
  split at hr
  ·rename_i xs h1
   split at hr
   ·rename_i hz;cases hr;exact .inr ⟨p,xs,n,rfl,rfl,h1,hz.1,hz.2.1,hz.2.2,q⟩
   ·cases hr
  ·cases hr
 ·cases hr
theorem jU4:Op3 X (binaryOp .Mult) jVu:=o_mulA.imp fun _ _ _ _=>mul_F
def ixR (G:Gp)(x y:T):Option T:=match seqT G x with
 | some xs=>match y with
  | .int i=>L2.atI xs i
  | _=>none
 | none=>match dAt G x y with
  | some o=>o
  | none=>none
def rIxF:R3:=fun x y G Q=>∃t,ixR G x y=some t/\Q t G
theorem ix_F' (h:rIxF x y G Q):rIxA x y G Q:=by
 obtain⟨t,ht,q⟩:=h
 unfold ixR at ht
 split at ht
 ·rename_i xs hx
  split at ht
  ·rename_i i;exact .inl ⟨xs,i,t,hx,rfl,ht,q⟩
  ·cases ht
 ·split at ht
  ·rename_i o ho;subst ht;exact .inr ⟨t,ho,q⟩
  ·cases ht
theorem ix_F (hu:X.A.units+20<cLine):Ix3 X rIxF:=(qKl hu).imp fun _ _ _ _=>ix_F'
noncomputable def setR (G:Gp)(o i v:T):Option Gp:=match o with
 | .ref p=>match G p with
  | some (.lst xs)=>match i with
   | .int k=>match L2.ixN xs.length k with
    | some j=>some (gup G p (.lst (xs.set j v)))
    | none=>none
   | _=>none
  | some (.dct kvs)=>match i with
   | .tup ys=>match jXv ys with
    | some ks=>if kvs.length<sizeLine then some (gup G p (.dct (putT kvs ks v))) else none
    | none=>none
   | _=>none
  | some (.dck kvs)=>match jQu i with
   | some k=>if kvs.length<sizeLine then some (gup G p (.dck (putT kvs k v))) else none
   | none=>none
  | some (.fdc _)=>none
  | some (.ins _ _)=>none
  | some (.exc _)=>none
  | none=>none
 | _=>none
def jVt:T->T->T->Gp->(Gp->Prop)->Prop:=fun o i v G Q=>∃G',setR G o i v=some G'/\Q G'
theorem set_F' {o i v:T}{Q:Gp->Prop}(h:jVt o i v G Q):rSetA o i v G Q:=by
 obtain⟨G',hr,q⟩:=h
 unfold setR at hr
 split at hr
 ·rename_i p
  split at hr
  ·rename_i xs h1
   split at hr
   ·rename_i k
    split at hr
    ·rename_i j hj;cases hr;exact .inl ⟨p,xs,k,j,rfl,rfl,h1,hj,q⟩
    ·cases hr
   ·cases hr
  ·rename_i kvs h1
   split at hr
   ·rename_i ys
    split at hr
    ·rename_i ks hk
     split at hr
     ·rename_i hz;cases hr;exact .inr (.inl ⟨p,ys,ks,kvs,rfl,rfl,hk,h1,hz,q⟩)
     ·cases hr
    ·cases hr
   ·cases hr
  ·rename_i kvs h1
   split at hr
   ·rename_i k hk
    split at hr
    ·rename_i hz;cases hr;exact .inr (.inr ⟨p,k,kvs,rfl,hk,h1,hz,q⟩)
    ·cases hr
   ·cases hr
  ·cases hr
  ·cases hr
  ·cases hr
  ·cases hr
 ·cases hr
theorem s_F (hu:X.A.units+20<cLine):Set3 X jVt:=(s_any hu).imp fun _ _ _ _ _=>set_F'
noncomputable def rLeF:R3:=fun x y G Q=>∃b,(match x,y with
 | .int i,.int j=>some (decide (i<=j))
 | .tup [.int a,.int b],.tup [.int c,.int d]=>some (HT.lexLe [a,b] [c,d])
 | _,_=>none)=some b/\Q (.bl b) G
theorem le_F' (h:rLeF x y G Q):rLeA x y G Q:=by
 obtain⟨b,hb,q⟩:=h
 split at hb
 ·cases hb;exact .inl ⟨_,_,rfl,rfl,q⟩
 ·cases hb;exact .inr ⟨_,_,rfl,rfl,q⟩
 ·cases hb
theorem qKe (hu:X.A.units+20<cLine):Op3 X (compareOp .LtE) rLeF:=(o_leA hu).imp fun _ _ _ _=>le_F'
noncomputable def inR (G:Gp)(x y:T):Option Bool:=match seqT G y with
 | some xs=>if jUr x=true/\xs.all jUr=true then some (inT x xs) else none
 | none=>match dAt G y x with
  | some o=>some o.isSome
  | none=>none
def kY0:R3:=fun x y G Q=>∃b,inR G x y=some b/\Q (.bl b) G
def jUy:R3:=fun x y G Q=>∃b,inR G x y=some b/\Q (.bl (!b)) G
theorem in_F' (h:kY0 x y G Q):rInL x y G Q:=by
 obtain⟨b,hb,q⟩:=h
 unfold inR at hb
 split at hb
 ·rename_i xs hx
  split at hb
  ·rename_i hc;cases hb;exact .inl ⟨xs,hx,hc.1,hc.2,q⟩
  ·cases hb
 ·split at hb
  ·rename_i o ho;cases hb;exact .inr ⟨o,ho,q⟩
  ·cases hb
theorem kZc (h:jUy x y G Q):kVf x y G Q:=by
 obtain⟨b,hb,q⟩:=h
 unfold inR at hb
 split at hb
 ·rename_i xs hx
  split at hb
  ·rename_i hc;cases hb;exact .inl ⟨xs,hx,hc.1,hc.2,q⟩
  ·cases hb
 ·split at hb
  ·rename_i o ho;cases hb;exact .inr ⟨o,ho,q⟩
  ·cases hb
theorem o_inFu (hu:X.A.units+20<cLine):Op3 X (compareOp .In) kY0:=(o_in hu).imp fun _ _ _ _=>in_F'
theorem jZ5 (hu:X.A.units+20<cLine):Op3 X (compareOp .NotIn) jUy:=(qKd hu).imp fun _ _ _ _=>kZc
noncomputable def slR (G:Gp)(x:T)(lo hi:Option Int):Option Res:=match x with
 | .tup xs=>some (.val (.tup (cutT xs lo hi)))
 | .scr xs=>some (.newL (cutT xs lo hi))
 | .ref p=>match G p with
  | some (.lst xs)=>some (.newL (cutT xs lo hi))
  | _=>none
 | _=>none
def rSlF:T->Option Int->Option Int->Gp->VK3->Prop:=fun x lo hi G Q=>∃r,slR G x lo hi=some r/\fin3 r G Q
theorem sl_F' {lo hi:Option Int}(h:rSlF x lo hi G Q):rSlA x lo hi G Q:=by
 obtain⟨r,hr,q⟩:=h
 unfold slR at hr
 split at hr
 ·cases hr;exact .inr ⟨_,rfl,q⟩
 ·cases hr;exact .inl ⟨_,rfl,q⟩
 ·split at hr
  ·rename_i xs h1;cases hr;exact .inl ⟨xs,by simp only[jVk,h1,asL],q⟩
  ·cases hr
 ·cases hr
theorem sl_F:Sl3 X rSlF:=sl_any.imp fun _ _ _ _ _=>sl_F'
end L3
namespace L2
open PySem PySem.Spec PyProof.Rows
section
variable {X:Cx}{tg:Expr}
end
end L2
namespace L3
open PySem PySem.Spec PyProof.Rows L2
noncomputable def Draw (P:Program)(w:World)(A:Around)(i:Addr)(r:Option Value)(S S':Heap->Prop):Prop:=
 ∀(s:Shared) (Q E:Value->Shared->Prop),S s.heap->
  (∀x g,r=some x->S' g->Heap.SameBut i s.heap g->Q x {s with heap:=g})->
  (∀g e o,r=none->Heap.ExtBut i s.heap g->g.get? e=some o->o.cls= .type "StopIteration"->E (.ref e) {s with heap:=g})->
  wpAny (model P w) A (Builtin.SmallTypes.nextOf (.ref i)) Q E s
def kUq (i t:Addr)(k:Nat)(xs:Array Value)(h:Heap):Prop:=h.IsTupleIter i t k/\h.IsTuple t xs
theorem jYs {P:Program}{w:World}{A:Around}{i t:Addr}{k:Nat}{xs:Array Value}(hh:A.handled=none)(ne:t≠i):Draw P w A i xs[k]? (kUq i t k xs) (kUq i t (k+1) xs):=by
 rintro s Q E ⟨⟨o,ho,hc,hd⟩,q,hq,hqc,n,hn⟩ item stop
 have ty:s.TypeIs (.ref i) "tuple_iterator":=⟨o,ho,hc⟩
 refine wpAny_bind (wpAny_callSpecial?_slot (name:=Str.ofString "__next__") ty F.slot_tuple_iterator_next (wpAny_call_entry F.slot_tuple_iterator_next ty F.entry_tuple_iterator_next ?_ (F.args_tuple_iterator_next_1 _)))
 refine (show wpAny _ _ (field (.ref i) 0 >>= _) _ _ s from wpAny_bind (wpAny_field ho hd (x:= .ref t) rfl ?_))
 refine (show wpAny _ _ (if (Value.ref t == Value.none)=true then _ else field (.ref i) 1 >>= _) _ _ s from ?_)
 rw[if_neg (by exact Bool.false_ne_true)]
 refine wpAny_bind (wpAny_field ho hd (x:= .int k 0) rfl (show wpAny _ _ (seqItems? (.ref t) >>= _) _ _ s from wpAny_bind (wpAny_seqItems hq hn ?_)))
 cases hx:xs[k]? with
 | some x=>
  simp only[hx,Int.toNat_natCast]
  have up:kUq i t (k+1) xs (s.heap.update i (Obj.mapFields (·.setIfInBounds 1 (rawInt ((k:Int)+1))))):=by
   refine⟨⟨_,Heap.get?_update_self _ ho (Obj.isFreed_of_fields (Obj.data_mapFields hd _)),(Obj.cls_mapFields ..).trans hc,?_⟩,q,(Heap.SameBut.update ..).extBut t q ne hq,hqc,n,hn⟩
   rw[Obj.data_mapFields hd];simp[rawInt]
  exact wpAny_bind (wpAny_setField ho hd (by simp) (wpAny_pure ⟨x,rfl,wpAny_pure (item x _ hx up (Heap.SameBut.update ..))⟩))
 | none=>
  simp only[hx,Int.toNat_natCast]
  refine wpAny_bind (wpAny_rule (wpAny_bind (wpAny_setField ho hd (by simp) (show wpAny _ _ (newExc (.type "StopIteration") [] >>= _) _ _ _ from wpAny_bind ?_))))
  simp only[newExc,newTuple,raiseNew]
  refine wpAny_bind (wpAny_newObj_type (wpAny_bind (m:=firstArgMember _ _) (wpAny_of_eq (a:=Value.none) (by first | rfl | (simp only[firstArgMember];rfl)) (wpAny_newObj_type ?_ (by size_fits)))) (by size_fits))
  refine wpAny_bind (wpAny_handled ?_);rw[show A.in1.handled=none from hh]
  exact wpAny_bind (wpAny_pure (wpAny_throw (stop _ _ _ hx (((Heap.SameBut.update ..).extBut.push _).push _) (Heap.get?_push_size _ rfl) rfl)))
def itOf (t:Addr):Obj:={cls:= .type "tuple_iterator",data:= .fields #[.ref t,.int 0 0]}
theorem zapart {n a b:Nat}(ha:a<n)(hb:b<n):ZipApart (n+4) (n+2) (n+3) n (n+1) a b:=by
 constructor<;>(show @Ne Nat _ _;omega)
def zipT (xs ys:List T):List T:=(xs.zip ys).map fun p=>T.tup [p.1,p.2]
end L3
namespace L3
open PySem
variable {n:Nat}
theorem atN {α:Type}{xs:List α}:L2.atI xs (n:Int)=xs[n]? :=by
 unfold L2.atI L2.ixN
 by_cases h:n<xs.length
 ·simp[h]
 ·simp[h]
theorem at0 {α:Type}{x:α}{xs:List α}:L2.atI (x::xs) 0=some x:=(atN (n:=0)).trans rfl
theorem at1 {α:Type}{x y:α}{xs:List α}:L2.atI (x::y::xs) 1=some y:=(atN (n:=1)).trans rfl
theorem at2 {α:Type}{x y z:α}{xs:List α}:L2.atI (x::y::z::xs) 2=some z:=(atN (n:=2)).trans rfl
variable {i:Int}
theorem atZ {α:Type}{xs:List α}(h:0<=i):L2.atI xs i=xs[i.toNat]? :=by
 obtain⟨n,rfl⟩:=Int.eq_ofNat_of_zero_le h
 simpa using atN
theorem qKp {k:Nat}(h:k<n):L2.ixN n (k:Int)=some k:=by simp[L2.ixN,h]
theorem ix0:L2.ixN (n+1) 0=some 0:=qKp (k:=0) (by omega)
theorem ix1:L2.ixN (n+2) 1=some 1:=qKp (k:=1) (by omega)
theorem ix2:L2.ixN (n+3) 2=some 2:=qKp (k:=2) (by omega)
theorem ix30:L2.ixN 3 0=some 0:=ix0
theorem ix31:L2.ixN 3 1=some 1:=ix1
theorem ix32:L2.ixN 3 2=some 2:=ix2
variable {G:Gp}{j:Int}
theorem kZ3:addR G (.int i) (.int j)=some (.val (.int (i+j))):=rfl
theorem kZd:mulR G (.int i) (.int j)=some (.val (.int (i*j))):=rfl
theorem kZf:mulC (.int i) (.int j)=L2.CMul i j:=rfl
variable {p:Addr}
theorem kZe:mulC (.ref p) (.int j)=True:=rfl
variable {Q:VK3}
theorem qKy {t:T}:fin3 (.val t) G Q=Q t G:=rfl
variable {xs:List T}
theorem qKz:fin3 (.newL xs) G Q=∀p,G p=none->Q (.ref p) (gup G p (.lst xs)):=rfl
theorem qKm:ixR G (.tup xs) (.int i)=L2.atI xs i:=rfl
theorem qKn:ixR G (.scr xs) (.int i)=L2.atI xs i:=rfl
theorem jUo (h:G p=some (.lst xs)):ixR G (.ref p) (.int i)=L2.atI xs i:=by simp only[ixR,seqT,h,asL]
theorem kYs:seqT G (.tup xs)=some xs:=rfl
theorem jJ4 (h:G p=some (.lst xs)):seqT G (.ref p)=some xs:=by simp only[seqT,h,asL]
variable {v:T}
theorem kZ9 {k:Int}(h:G p=some (.lst xs)):setR G (.ref p) (.int k) v=(L2.ixN xs.length k).map fun j=>gup G p (.lst (xs.set j v)):=by
 cases e:L2.ixN xs.length k with
 | none=>simp only[setR,h,e,Option.map_none]
 | some j=>simp only[setR,h,e,Option.map_some]
theorem kYr {k:Int}:setR (gup G p (.lst xs)) (.ref p) (.int k) v=(L2.ixN xs.length k).map fun j=>gup G p (.lst (xs.set j v)):=by
 rw[kZ9 jJg];simp only[jUp]
theorem qKo:ixR (gup G p (.lst xs)) (.ref p) (.int i)=L2.atI xs i:=jUo jJg
theorem kYt:seqT (gup G p (.lst xs)) (.ref p)=some xs:=jJ4 jJg
noncomputable def ForAt (g:TG3)(tb:TS3)(D:Ends3)(τ:St3)(xs:List T)(stay:Gp->Prop)(G:Gp):Prop:=∃P:Nat->St3->Gp->Prop,P 0 τ G/\(∀i τ G,i<=xs.length->P i τ G->stay G)/\
 (∀i x τ G,xs[i]? =some x->P i τ G->g x τ G fun τ2 G2=>tb {D with nx:=P (i+1),ct:=P (i+1),bk:=D.nx} τ2 G2)/\∀ τ G,P xs.length τ G->D.nx τ G
variable {wi:TI3}{g:TG3}{τ:St3}
theorem jVc {tb:TS3}{D:Ends3}:tFor wi g tb D τ G=wi τ G fun xs stay G1=>ForAt g tb D τ xs stay G1:=rfl
def kYe (mask:List Bool)(g:TG3)(tif:TT3)(te:TE3)(τ:St3)(xs:List T)(stay:Gp->Prop)(G:Gp)(Q:VK3):Prop:=kJ0 mask g tif te τ xs stay G Q
variable {mask:List Bool}{tif:TT3}{te:TE3}
theorem kYo:jYu mask wi g tif te τ G Q=wi τ G fun xs stay G1=>kYe mask g tif te τ xs stay G1 Q:=rfl
def Sub (G G':Gp):Prop:=∀c o,G c=some o->G' c=some o
theorem Sub.refl (G:Gp):Sub G G:=fun _ _ h=>h
theorem Sub.trans {G1 G2:Gp}(h:Sub G G1)(h':Sub G1 G2):Sub G G2:=fun c o e=>h' c o (h c o e)
variable {o:GO}
theorem Sub.new (hp:G p=none):Sub G (gup G p o):=fun c u e=>by rw[jJi];exact e;rintro rfl;rw[hp] at e;cases e
theorem Sub.over {G':Gp}(h:Sub G G')(hp:G p=none):Sub G (gup G' p o):=fun c u e=>by rw[jJi];exact h c u e;rintro rfl;rw[hp] at e;cases e
variable {a:Addr}
theorem jJt (h:gup G a o p=none):p≠a/\G p=none:=by
 by_cases e:p=a
 ·subst e;rw[jJg] at h;cases h
 ·rw[jJi e] at h;exact⟨e,h⟩
theorem jJo (h:G a=some o)(hp:G p=none):a≠p:=by rintro rfl;rw[h] at hp;cases hp
theorem jQ2 {α β:Type}{enc:α->β}{es:List α}{i:Nat}{x:β}(h:(es.map enc)[i]? =some x):∃e,es[i]? =some e/\x=enc e:=by
 rw[List.getElem?_map] at h
 cases e1:es[i]? with
 | none=>rw[e1] at h;cases h
 | some e=>rw[e1] at h;exact⟨e,rfl,(Option.some.inj h).symm⟩
theorem jZk {α:Type}{es:List α}{enc:α->T}{stay:Gp->Prop}(f:α->Option T)(hz:es.length<=sizeLine)(hst:∀G',Sub G G'->stay G')(h:∀(i:Nat) e,es[i]? =some e->∀G' (K:T->Gp->Prop) (K0:Gp->Prop),Sub G G'->(∀y G4,f e=some y->Sub G' G4->K y G4)->(f e=none->∀G4,Sub G' G4->K0 G4)->g (enc e) (msk mask τ) G' fun τ2 G2=>tif τ2 G2 fun b G3=>if b=true then te τ2 G3 K else K0 G3)(hq:∀D G',G D=none->G' D=some (.lst (es.filterMap f))->Sub G G'->Q (.ref D) G'):kYe mask g tif te τ (es.map enc) stay G Q:=by
 intro D hD
 refine⟨fun i acc G'=>acc=(es.take i).filterMap f/\G' D=some (.lst acc)/\Sub G G',⟨by simp,jJg,.new hD⟩,?_,?_,?_⟩
 ·rintro i acc G' hi ⟨ea,eg,hs⟩
  exact⟨hst G' hs,eg⟩
 ·rintro i x acc G' hx0 ⟨ea,eg,hs⟩
  obtain⟨e,hx,rfl⟩:=jQ2 hx0
  have hi:i<es.length:=(List.getElem?_eq_some_iff.mp hx).1
  have tk:es.take (i+1)=es.take i++[e]:=by rw[List.take_succ,hx];rfl
  have hlen:acc.length<sizeLine:=by
   have h1:acc.length<=(es.take i).length:=by rw[ea];exact List.length_filterMap_le _ _
   rw[List.length_take] at h1;omega
  refine h i e hx G' _ _ hs (fun y G4 hy h4=>⟨h4 D _ eg,hlen,?_,jJg,(hs.trans h4).over hD⟩) fun hn G4 h4=>⟨?_,h4 D _ eg,hs.trans h4⟩
  ·rw[tk,List.filterMap_append,<-ea];simp[hy]
  ·rw[tk,List.filterMap_append,<-ea];simp[hn]
 ·rintro acc G' ⟨ea,eg,hs⟩
  rw[List.length_map,List.take_length] at ea
  rw[ea] at eg
  exact hq D G' hD eg hs
theorem jV5 {α:Type}{es:List α}{enc:α->T}{stay:Gp->Prop}(f:α->T)(hz:es.length<=sizeLine)(hst:∀G',Sub G G'->stay G')(h:∀(i:Nat) e,es[i]? =some e->∀G' (K:T->Gp->Prop) (K0:Gp->Prop),Sub G G'->(∀G4,Sub G' G4->K (f e) G4)->g (enc e) (msk mask τ) G' fun τ2 G2=>tif τ2 G2 fun b G3=>if b=true then te τ2 G3 K else K0 G3)(hq:∀D G',G D=none->G' D=some (.lst (es.map f))->Sub G G'->Q (.ref D) G'):kYe mask g tif te τ (es.map enc) stay G Q:=by
 refine jZk (fun e=>some (f e)) hz hst (fun i e he G' K K0 hs hk _=>h i e he G' K K0 hs fun G4 h4=>hk _ G4 rfl h4) fun D G' hD h1 h2=>hq D G' hD ?_ h2
 rw[h1];congr 2;induction es with
 | nil=>rfl
 | cons a as ih=>simp
theorem jK5 (h:G p=some (.lst xs)):tyT G "list" (.ref p)=True:=by simp[tyT,h]
theorem qJn:tyT (gup G p (.lst xs)) "list" (.ref p)=True:=jK5 jJg
end L3
namespace L3
open PySem PySem.Spec PyProof.Rows L2
variable {X:Cx}
variable {P:Program}{w:World}{A:Around}
theorem kXr (hh:A.handled=none)(it t:Addr)(ne:t≠it)(xs:Array Value):Draws P w A it [it,t] xs.size (fun i v=>xs[i]? =some v) (fun i h=>kUq it t i xs h) where
 live:=fun _ _ ⟨⟨o,ho,_⟩,_⟩=>⟨o,ho⟩
 frame:=fun _ _ _ ⟨⟨o,ho,r⟩,⟨q,hq,r'⟩⟩ k=>⟨⟨o,k it (by simp) o ho,r⟩,⟨q,k t (by simp) q hq,r'⟩⟩
 item:=fun i s Q E hi st hQ=>jYs hh ne s Q E st (fun x g e s' b=>hQ x g s.toks e s' b) fun _ _ _ e=>by rw[Array.getElem?_eq_getElem hi] at e;cases e
 done:=fun s Q E st hE=>jYs hh ne s Q E st (fun x _ e=>by rw[Array.getElem?_eq_none (Nat.le_refl _)] at e;cases e) fun g e o _ b he hc=>hE g e b ⟨o,he,hc⟩
def kQq (i:Addr):Obj:={cls:= .type "enumerate",data:= .fields #[.none,.bool false,.ref i,rawInt 0,.none,.none]}
theorem kZu (t:Addr)(xs:Array Value):
  Meets (Builtin.«enumerate.__new__» ⟨[.type "enumerate",.ref t],[]⟩) fun _ R s=>s.heap.IsTuple t xs/\R (.ok (.ret (.ref (s.heap.push (itOf t)).objs.size))) {s with heap:=(s.heap.push (itOf t)).push (kQq s.heap.objs.size)}:=by
 refine .of_wp fun P w A R s ⟨ht,h⟩=> ?_
 obtain⟨g,a1,a2,a3,a4⟩:=s
 have sb:=sub_enumerate
 have m1:Heap.IsTuple (Shared.heap ⟨g,a1,a2,a3,a4⟩) t xs:=ht
 obtain⟨⟨c,dct,dt,sl⟩,hl,hc,n,hd⟩:=id ht
 replace hc:c= .type "tuple":=hc
 replace hd:dt= .seq xs n:=hd
 subst hc hd
 wp_walk using AutoSeq1.wpAny_loadPart' hl
 refine wpAny_stack_any (fun stk=>wpAny_pure ?_)
 split
 ·rename_i k _ _ _ _ _
  cases (k == Value.type "enumerate")<;>(wp_walk using AutoSeq1.wpAny_loadPart' hl,wpAny_pyIter_tuple m1;exact⟨_,rfl,h⟩)
 ·wp_walk using AutoSeq1.wpAny_loadPart' hl,wpAny_pyIter_tuple m1;exact⟨_,rfl,h⟩
variable {s:Shared}{xs:Array Value}{E:Value->Shared->Prop}
theorem kXo {t:Addr}{Q:Value->Shared->Prop}(ht:s.heap.IsTuple t xs)(h:∀g n,n=s.heap.objs.size->IsEnum g (n+1) n 0 .none->kUq n t 0 xs g->(∀c o,s.heap.get? c=some o->g.get? c=some o)->Q (.ref (n+1)) {s with heap:=g}):wpAny (model P w) A (call (.type "enumerate") [.ref t]) Q E s:=by
 refine callType_new F.called_enumerate (by decide) (F.typeCall_enumerate_1 _) (F.newCall_enumerate_1 _) (fun obj=>F.args_object_init_2 obj _) F.entry_enumerate_new (kZu t xs) ⟨ht,?_⟩
 have hn:∀(g:Heap) (o:Obj),(g.push o).objs.size=g.objs.size+1:=fun _ _=>Heap.size_push ..
 have up:∀ {g:Heap} {o q:Obj} {c:Addr},g.get? c=some q->(g.push o).get? c=some q:=fun e=>Heap.get?_push_of_some _ e
 obtain⟨q,hq,hr⟩:=ht
 have c0:((s.heap.push (itOf t)).push (kQq s.heap.objs.size)).get? s.heap.objs.size=some (itOf t):=up (Heap.get?_push_size _ rfl)
 have c1:((s.heap.push (itOf t)).push (kQq s.heap.objs.size)).get? (s.heap.push (itOf t)).objs.size=some (kQq s.heap.objs.size):=Heap.get?_push_size _ rfl
 show _/\_
 simp only[hn] at c1 ⊢
 exact⟨⟨_,c1,rfl⟩,h _ _ rfl c1 ⟨⟨_,c0,rfl,rfl⟩,q,up (up hq),hr⟩ fun c o e=>up (up e)⟩
variable {e it:Addr}{i:Int}{old:Value}
theorem jQd {t:Addr}{k:Nat}{Q:Option Value->Shared->Prop}(hh:A.handled=none)(ne:t≠it)(he:IsEnum s.heap e it i old)(st:kUq it t k xs s.heap)(hk:xs.size<=k)(hQ:∀g,Heap.ExtBut it s.heap g->Q none {s with heap:=g}):wpAny (model P w) A (pyNext (.ref e)) Q E s:=by
 have ty:s.TypeIs (.ref e) "enumerate":=⟨_,he,rfl⟩
 refine wpAny_bind (wpAny_attempt (wpAny_callSpecial?_slot (name:=Str.ofString "__next__") ty F.slot_enumerate_next (wpAny_call_entry F.slot_enumerate_next ty F.entry_enumerate_next ?_ (F.args_enumerate_next_1 _))))
 refine (show wpAny _ _ (field (.ref e) 2 >>= _) _ _ _ from wpAny_bind (wpAny_field he rfl (x:= .ref it) rfl (wpAny_bind ?_)))
 refine jYs (A:=A.in1) hh ne s _ _ st (fun x _ e=>by rw[Array.getElem?_eq_none hk] at e;cases e) fun g x o _ b hx hc=> ?_
 exact wpAny_bind (wpAny_isInstance (T:="StopIteration") (b:=true) ⟨o,hx,hc⟩ isSubtype_stop (wpAny_pure (hQ g b)))
noncomputable def Itn (K:PySem.W.Frag)(a:Addr):It:=
 ⟨fun i H=>∃xs x,SqT K H a xs/\xs[i]? =some x,fun i H x H'=>∃p y,H p=none/\x= .ref p/\(∀xs,SqT K H a xs->xs[i]? =some y)/\H'=upd H p (.tup [.int i,y]),fun i H=>∃xs,SqT K H a xs/\xs.length<=i⟩
theorem kQp {h:Heap}{a:Addr}{k:Nat}(he:IsEnum h e it i old)(hi:h.IsTupleIter it a k)(ht:h.IsTuple a xs):a≠it/\e∉[it,a]:=by
 obtain⟨o,ho,hc,_⟩:=hi
 obtain⟨q,hq,hqc,_⟩:=ht
 refine⟨fun z=> ?_,fun m=> ?_⟩
 ·subst z;rw[ho] at hq;cases hq;rw[hc] at hqc;simp at hqc
 ·simp only[List.mem_cons,List.not_mem_nil,or_false] at m
  rcases m with rfl | rfl
  ·rw[he] at ho;cases ho;simp at hc
  ·rw[he] at hq;cases hq;simp at hqc
variable {elts:List Expr}{pos:Pos}
theorem kQ1 {K:PySem.W.Frag}{k:Nat}(a e it:Addr)(hei:e≠it):
  Turn P w K (.Tuple elts k pos) (Itn K a) [e,it] e (fun i h=>(∃old,IsEnum h e it i old)/\h.IsTupleIter it a i) where
 mem:=List.mem_cons_self ..
 obj:=fun i h ⟨⟨old,h1⟩,h2⟩ b hb=>by
  simp only[List.not_mem_nil,List.mem_cons,or_false] at hb
  rcases hb with rfl | rfl
  ·exact⟨_,h1,fun v z=>nomatch (show Data.fields _=Data.cell v from z)⟩
  ·obtain⟨o,e2,c,d⟩:=h2
   exact⟨o,e2,fun v z=>by rw[d] at z;cases z⟩
 keep:=fun i h h' ⟨⟨old,h1⟩,h2⟩ kp=>⟨⟨old,kp e (by simp) _ h1⟩,h2.at fun o q=>kp it (by simp) o q⟩
 item:=by
  rintro X hP hw hK hc i pins s σ H E I hf ⟨⟨old,he⟩,hit⟩ ⟨xs,x,hq,hx⟩
  subst hP hw hK
  obtain⟨its,rv,p,hz⟩:=I.tuple hq
  obtain⟨u,hu,ru⟩:=rv.get hx
  have p':s.heap.IsTuple a its.toArray:=p
  obtain⟨nei,hef⟩:=kQp he hit p'
  have hlt:i<its.toArray.size:=by simpa using (List.getElem?_eq_some_iff.mp hu).1
  refine wpAny_pyNext_enum_itemD (kXr (A:=X.A.in1) (I.ok.hd hc) it a nei its.toArray) he ⟨hit,p'⟩ hlt hei hef fun x' h1 tk hx' ho hit1 hT hsz hk=> ?_
  obtain rfl:u=x':=by simpa[hu] using hx'
  refine⟨_,rfl,wpAny_letOwnedTupleGo_enum ho fun h2 he2 hs2=> ?_⟩
  have hel:e<s.heap.objs.size:=Heap.lt_size he
  have hp2:∀b o,b∉[e,it]->s.heap.get? b=some o->h2.get? b=some o:=fun b o hb q=>by
   simp only[List.mem_cons,List.not_mem_nil,or_false,not_or] at hb
   exact (hs2.2 b hb.1).trans (hk b o hb.1 hb.2 q)
  have hT2:h2.get? s.heap.objs.size=some {cls:= .type "tuple",data:= .seq #[.int i tk,u]}:=(hs2.2 _ (Nat.ne_of_gt hel)).trans hT
  have I2:=jV9 (t':=tk+1) (h':=h2) (p:=s.heap.objs.size) (vs:=[.int i,x]) (us:=[.int i tk,u]) I hp2 hf (Nat.le_refl _) ⟨_,hT2,rfl,_,rfl,rfl⟩ (.cons ⟨_,rfl⟩ (.cons ru .nil)) (by show 2<=sizeLine;decide)
  refine⟨.ref s.heap.objs.size,_,I2,rfl,⟨_,x,I.hok.fresh (Nat.le_refl _),rfl,fun ys hy=>by rw[I.tuple_inj hy hq];exact hx,rfl⟩,⟨⟨u,by simpa using he2⟩,hit1.1.at fun o q=>(hs2.2 it hei.symm).trans q⟩,fun b hb=> ?_⟩
  have hbs:∃o,s.heap.get? b=some o:=by
   have hb':=hb
   simp only[List.not_mem_nil,List.mem_cons,or_false] at hb'
   rcases hb' with rfl | rfl
   ·exact⟨_,he⟩
   ·obtain⟨o,q,_⟩:=hit;exact⟨o,q⟩
  obtain⟨o,q⟩:=hbs
  rw[jJk (Nat.ne_of_lt (Heap.lt_size q))]
  exact (hf b hb).1
 done:=by
  rintro X hP hw hK hc i pins s σ H E I hf ⟨⟨old,he⟩,hit⟩ ⟨xs,hq,hx⟩
  subst hP hw hK
  obtain⟨its,rv,p,hz⟩:=I.tuple hq
  have p':s.heap.IsTuple a its.toArray:=p
  obtain⟨nei,hef⟩:=kQp he hit p'
  have hl:=rv.length
  refine jQd (I.ok.hd hc) nei he ⟨hit,p'⟩ (by simp;omega) fun h1 hx1=>⟨rfl,jXa (t':=s.toks) I (fun b o hb q=>hx1 b o (fun z=>hb (by simp[z])) q) hf⟩
 self:=fun _ _ _ _ _ ⟨⟨old,he⟩,_⟩ h=>wpAny_pyIter_enum he h
def iEnT (ta:TA3):TI3:=fun τ G R=>ta τ G fun vs G1=>∃xs,vs=[.tup xs]/\R (numT xs) (fun _=>True) G1
theorem i_enT {k:Nat}{tpos p:Pos}{a:Expr}{ta:TA3}(hg:Gl X "enumerate")(hm:X.mg "enumerate"=none)(hv:bootBuiltins "enumerate"=some (.type "enumerate"))(ha:PA3 X [a] ta)(hs:starEach [a] X.env=[(false,eval a X.env)]:=by rfl):
  PI3 X (.Tuple elts k tpos) (.Call (.Name "enumerate" p) [a] [] pos) (iEnT ta):=by
 intro pins s τ G H R I h
 obtain⟨σ0,I0,_,_⟩:=id I
 refine Call_ (jUf I0 hg hm hv (PyProof.Rows.callWith_type1 (thn (ha pos pins s τ G H _ I h) fun us s1 w_=>w_.el fun xs' G1 H1 e1 i_ r_ q1=>i_.el fun σ I1 hs1 hg1=>r_.el fun as ras rvs=> ?_) hs rfl))
 obtain⟨xs,e,q⟩:=q1
 subst e
 obtain⟨v,rfl,rv⟩:=jVr ras
 obtain⟨u,rfl,ru⟩:=rvs.one
 obtain⟨pa,vs,rfl,hq,r⟩:=(show ∃p vs,v= .ref p/\H1 p=some (.tup vs)/\Reps X.K H1 xs vs from rv)
 cases ru
 obtain⟨its,rvv,pl,hz⟩:=I1.tuple (.of hq)
 refine kXo (show s1.heap.IsTuple pa its.toArray from pl) fun h1 n hn he hit hk=> ?_
 subst hn
 have I2:Inv X pins σ H1 {s1 with heap:=h1}:=I1.kept (t':=s1.toks) hk
 refine wpAny_pyIter_enum (Q:=PIE3 X pins τ H (.Tuple elts k tpos) R) he ?_
 have fr:∀b∈[s1.heap.objs.size+1,s1.heap.objs.size],FpOk X pins H1 b:=fun b hb=>by
  simp only[List.not_mem_nil,List.mem_cons,or_false] at hb
  have hle:s1.heap.objs.size<=b:=by omega
  exact I1.fpOk hle (I1.hok.fresh hle)
 refine⟨s1.heap.objs.size+1,[s1.heap.objs.size+1,s1.heap.objs.size],_,_,numT xs,fun _=>True,G1,H1,rfl,e1,⟨σ,I2,hs1,hg1⟩,kQ1 pa _ _ (Nat.succ_ne_self _),⟨⟨.none,he⟩,hit.1⟩,fr,?_,q⟩
 intro i H2 G2 e2 g2 _
 obtain⟨pb,ws,eb,h1',h2⟩:=(show ∃p vs,V.ref pa= .ref p/\H2 p=some (.tup vs)/\Reps X.K H2 xs vs from Rep.mono e2 _ rv)
 cases eb
 have hlen:=h2.length
 refine⟨fun hi=> ?_,fun hi=>⟨ws,.of h1',by rw[jQp] at hi;omega⟩,fun hi y H' ⟨pp,z,hn,ey,hy,eH⟩=> ?_⟩
 ·rw[jQp] at hi
  exact⟨ws,ws[i]'(by omega),.of h1',by simp[hlen▸hi]⟩
 ·subst ey;subst eH
  obtain⟨t,ht,rt⟩:=h2.get' (hy ws (.of h1'))
  exact⟨.upd (.none hn),g2.tupNew hn,_,kQd ht,Rep.tupNew ⟨_,_,rfl,rfl,_,_,rfl,rt,rfl⟩ hn⟩
theorem kX8 {K:PySem.W.Frag} {H:Hp} {y:T} {b:V} (ry:Rep K H y b) (fy:jUr y=true):∀ {xs:List T} {vs:List V} {us:List Value},Reps K H xs vs->Vals vs us->xs.all jUr=true->∀(m:Nat) (x:T) (u:Value),xs[m]? =some x->us[m]? =some u->eqU b u=eqT x y
 | [],_,_,_,_,_=>fun m x u h=>by simp at h
 | x::xs,_,_,⟨v,ws,e,r1,r2⟩,q,f=>by
  subst e
  cases q with
  | cons q1 q2=>
   rw[List.all_cons,Bool.and_eq_true] at f
   intro m z u hz hu
   cases m with
   | zero=>cases hz;cases hu;rw[kXl q1 (jV3 r1 f.1),kXf r1 ry f.1 fy]
   | succ m=>exact kX8 ry fy r2 q2 f.2 m z u hz hu
noncomputable def kK9:T->List T->Gp->VK3->Prop:=fun x as G Q=>∃(p:Addr) (xs:List T) (y z:T) (j:Nat),x= .ref p/\as=[y]/\G p=some (.lst xs)/\jUr y=true/\xs.all jUr=true/\xs[j]? =some z/\eqT z y=true/\(∀(m:Nat) (t:T),m<j->xs[m]? =some t->eqT t y=false)/\Q (.int j) G
theorem kVu:Mt3 X "list.index" kK9:=by
 rintro pins s τ G H x as v us Q ⟨σ,I,hs,hg⟩ ⟨a,ra,rv⟩ ⟨bs,rbs,rus⟩ ⟨p,xs,y,z,j,ex,ea,hp,fy,fs,hj,hit,hno,q⟩
 subst ex;subst ea
 cases (show a= .ref p from ra);cases rv
 obtain⟨b,rfl,rb⟩:=jVr rbs
 obtain⟨u,rfl,ru⟩:=rus.one
 obtain⟨vs,h1,h2⟩:=hg.lst hp
 obtain⟨hz,its,n,r,hl,e⟩:=I.lstM h1
 have fl:=(jZe rb fy h2 fs).1
 have hlen:its.length=xs.length:=by have:=r.length;have:=h2.length;omega
 have hjl:j<xs.length:=(List.getElem?_eq_some_iff.mp hj).1
 have hsl:=jZ9
 refine call_meets F.slot_list_index ⟨_,e,rfl⟩ F.entry_list_index (F.args_list_index_2 _ _) (SeqAt.list_indexAt p its.toArray n none #[] u (eqU b) j (by simp;omega) (by omega) ?_ ?_) ⟨e,fun w hw=>jQ8 ru (jV3 rb fy) r fl w (by simpa using hw),?_⟩
 ·rw[kX8 rb fy h2 r fs j z _ hj (by simp)];exact hit
 ·intro m hm hmj
  have hx:xs[m]? =some xs[m]:=List.getElem?_eq_getElem (by omega)
  rw[kX8 rb fy h2 r fs m xs[m] _ hx (by simp)];exact hno m _ hmj hx
 ·exact⟨.int _,G,H,.refl H,⟨σ,I.tok _,hs,hg⟩,⟨.int _,rfl,s.toks,rfl⟩,q⟩
noncomputable def kU4 (tk tv:TE3):TE3:=fun τ G Q=>∀p,G p=none->tk τ (gup G p (.dck [])) fun x G1=>tv τ G1 fun y G2=>∃k,jQu x=some k/\G2 p=some (.dck [])/\Q (.ref p) (gup G2 p (.dck [(k,y)]))
theorem qK4 {k v:Expr}{tk tv:TE3}(hk:PE3 X k tk)(hv:PE3 X v tv):PE3 X (.Dict [some k] [v] pos) (kU4 tk tv):=by
 rintro pins s τ G H Q ⟨σ,I,hs,hg⟩ h
 have hn:=I.hok.fresh (Nat.le_refl s.heap.objs.size)
 have I1:=I.laid (a:=s.heap.objs.size) (o:= .dK []) (h':=s.heap.push {cls:= .type "dict",data:= .dict #[]}) (t':=s.toks) (fun _ _ q=>Heap.get?_push_of_some _ q) (Nat.le_refl _) (jZi s.heap I.big)
 have I3:Inv3 X pins τ (gup G s.heap.objs.size (.dck [])) (upd H s.heap.objs.size (.dK [])) {s with heap:=s.heap.push {cls:= .type "dict",data:= .dict #[]},toks:=s.toks}:=
  ⟨σ,I1,hs.mono (.upd (.none hn)),hg.upd (.none hn) (go:= .dck []) ⟨[],jJn,.nil⟩⟩
 refine wpAny_Dict_walk (knd:=jJ7 X.prog X.w) rfl rfl (by simp) (by simp) (pairTrees_cons_walk (thn (hk pins _ τ _ _ _ I3 (h _ (hg.fresh hn))) fun u s1 w_=>w_.el fun x G1 H1 e1 J1 ru q1=>thn (hv pins s1 τ G1 H1 _ J1 q1) fun u2 s2 w_=>w_.el fun y G2 H2 e2 i_ ru2 ⟨key,hkey,hd,q2⟩=>i_.el fun σ2 J2 hs2 hg2=>pairTrees_nil_walk ?_))
 obtain⟨ws,hH2,pk⟩:=(show ∃ws,H2 s.heap.objs.size=some (.dK ws)/\PKV X.K H2 [] ws from hg2 _ _ hd)
 cases pk
 obtain⟨a,ra,rva⟩:=ru.mono e2
 obtain⟨c,rc,rvc⟩:=ru2
 obtain rfl:=jKl hkey ra
 obtain⟨rs,cr,rk⟩:=jVn (P:=X.prog) (w:=X.w) (kvs:=[(key,c)]) (ws:=[(u,u2)]) (.cons ⟨rva,rvc⟩ .nil)
 obtain⟨z,hdd,vs0,r0,dd⟩:=kZw J2.hok hH2
 cases r0
 refine⟨rs,cr,dd,fun h' dd' hsb=> ?_⟩
 have he:∃q,h'.get? s.heap.objs.size=some q:=let ⟨q,_,_,hq,_⟩:=dd';⟨q,hq⟩
 have JJ:=jZj (t':=s2.toks+[(u,u2)].length) J2 (by rw[hH2];exact True.intro) hsb he (kXt (kvs:=[(key,c)]) (by rw[sizeLine_eq];exact Nat.succ_le_of_lt (Nat.succ_pos _)) hdd (rk.merge .nil) dd')
 have ext:Ext H2 (upd H2 s.heap.objs.size (.dK [(key,c)])):= .upd (.dK hH2)
 exact⟨.ref s.heap.objs.size,_,_,(((Ext.upd (.none hn)).trans e1).trans e2).trans ext,⟨σ2,JJ,hs2.mono ext,hg2.upd (.dK hH2) (go:= .dck [(key,y)]) ⟨_,jJn,PKV.put (kvs:=[]) .nil key (Rep.mono ext _ rc)⟩⟩,⟨.ref _,rfl,rfl⟩,q2⟩
end L3
namespace L3
open PySem PySem.Spec PyProof.Rows L2 MeetsSeq
section
variable {X:Cx}
end
end L3
namespace L3
open PySem PySem.Spec PyProof.Rows L2
variable {X:Cx}
section
variable {P:Program}{w:World}{A:Around}{E:Value->Shared->Prop}{s:Shared}{d:Addr}
end
section
variable {pos:Pos}
end
theorem szle {n:Nat}(h:Nat.ble n 16777216=true):n<=sizeLine:=by rw[PySem.sizeLine_eq];exact Nat.le_of_ble_eq_true h
end L3
namespace L3
theorem xe1 {A0:Type}{σ:Type}{f:A0->σ}{p:A0->Prop}{τ:σ}{C:σ->Prop}(h:∃a0,τ=f a0/\p a0)(k:∀a0,p a0->C (f a0)):C τ:=by
 obtain⟨a0,e,h⟩:=h;rw[e];exact k _ h
theorem xe2 {A0 A1:Type}{σ:Type}{f:A0->A1->σ}{p:A0->A1->Prop}{τ:σ}{C:σ->Prop}(h:∃a0 a1,τ=f a0 a1/\p a0 a1)(k:∀a0 a1,p a0 a1->C (f a0 a1)):C τ:=by
 obtain⟨a0,a1,e,h⟩:=h;rw[e];exact k _ _ h
theorem xi2 {A0 A1:Type}{σ:Type}{f:A0->A1->σ}{p:A0->A1->Prop}{τ:σ}(a0:A0)(a1:A1)(e:τ=f a0 a1)(h:p a0 a1):∃a0 a1,τ=f a0 a1/\p a0 a1:=⟨a0,a1,e,h⟩
theorem xe3 {A0 A1 A2:Type}{σ:Type}{f:A0->A1->A2->σ}{p:A0->A1->A2->Prop}{τ:σ}{C:σ->Prop}(h:∃a0 a1 a2,τ=f a0 a1 a2/\p a0 a1 a2)(k:∀a0 a1 a2,p a0 a1 a2->C (f a0 a1 a2)):C τ:=by
 obtain⟨a0,a1,a2,e,h⟩:=h;rw[e];exact k _ _ _ h
theorem xe4 {A0 A1 A2 A3:Type}{σ:Type}{f:A0->A1->A2->A3->σ}{p:A0->A1->A2->A3->Prop}{τ:σ}{C:σ->Prop}(h:∃a0 a1 a2 a3,τ=f a0 a1 a2 a3/\p a0 a1 a2 a3)(k:∀a0 a1 a2 a3,p a0 a1 a2 a3->C (f a0 a1 a2 a3)):C τ:=by
 obtain⟨a0,a1,a2,a3,e,h⟩:=h;rw[e];exact k _ _ _ _ h
theorem xe6 {A0 A1 A2 A3 A4 A5:Type}{σ:Type}{f:A0->A1->A2->A3->A4->A5->σ}{p:A0->A1->A2->A3->A4->A5->Prop}{τ:σ}{C:σ->Prop}(h:∃a0 a1 a2 a3 a4 a5,τ=f a0 a1 a2 a3 a4 a5/\p a0 a1 a2 a3 a4 a5)(k:∀a0 a1 a2 a3 a4 a5,p a0 a1 a2 a3 a4 a5->C (f a0 a1 a2 a3 a4 a5)):C τ:=by
 obtain⟨a0,a1,a2,a3,a4,a5,e,h⟩:=h;rw[e];exact k _ _ _ _ _ _ h
theorem xe7 {A0 A1 A2 A3 A4 A5 A6:Type}{σ:Type}{f:A0->A1->A2->A3->A4->A5->A6->σ}{p:A0->A1->A2->A3->A4->A5->A6->Prop}{τ:σ}{C:σ->Prop}(h:∃a0 a1 a2 a3 a4 a5 a6,τ=f a0 a1 a2 a3 a4 a5 a6/\p a0 a1 a2 a3 a4 a5 a6)(k:∀a0 a1 a2 a3 a4 a5 a6,p a0 a1 a2 a3 a4 a5 a6->C (f a0 a1 a2 a3 a4 a5 a6)):C τ:=by
 obtain⟨a0,a1,a2,a3,a4,a5,a6,e,h⟩:=h;rw[e];exact k _ _ _ _ _ _ _ h
theorem xe8 {A0 A1 A2 A3 A4 A5 A6 A7:Type}{σ:Type}{f:A0->A1->A2->A3->A4->A5->A6->A7->σ}{p:A0->A1->A2->A3->A4->A5->A6->A7->Prop}{τ:σ}{C:σ->Prop}(h:∃a0 a1 a2 a3 a4 a5 a6 a7,τ=f a0 a1 a2 a3 a4 a5 a6 a7/\p a0 a1 a2 a3 a4 a5 a6 a7)(k:∀a0 a1 a2 a3 a4 a5 a6 a7,p a0 a1 a2 a3 a4 a5 a6 a7->C (f a0 a1 a2 a3 a4 a5 a6 a7)):C τ:=by
 obtain⟨a0,a1,a2,a3,a4,a5,a6,a7,e,h⟩:=h;rw[e];exact k _ _ _ _ _ _ _ _ h
theorem xe10 {A0 A1 A2 A3 A4 A5 A6 A7 A8 A9:Type}{σ:Type}{f:A0->A1->A2->A3->A4->A5->A6->A7->A8->A9->σ}{p:A0->A1->A2->A3->A4->A5->A6->A7->A8->A9->Prop}{τ:σ}{C:σ->Prop}(h:∃a0 a1 a2 a3 a4 a5 a6 a7 a8 a9,τ=f a0 a1 a2 a3 a4 a5 a6 a7 a8 a9/\p a0 a1 a2 a3 a4 a5 a6 a7 a8 a9)(k:∀a0 a1 a2 a3 a4 a5 a6 a7 a8 a9,p a0 a1 a2 a3 a4 a5 a6 a7 a8 a9->C (f a0 a1 a2 a3 a4 a5 a6 a7 a8 a9)):C τ:=by
 obtain⟨a0,a1,a2,a3,a4,a5,a6,a7,a8,a9,e,h⟩:=h;rw[e];exact k _ _ _ _ _ _ _ _ _ _ h
theorem xe11 {A0 A1 A2 A3 A4 A5 A6 A7 A8 A9 A10:Type}{σ:Type}{f:A0->A1->A2->A3->A4->A5->A6->A7->A8->A9->A10->σ}{p:A0->A1->A2->A3->A4->A5->A6->A7->A8->A9->A10->Prop}{τ:σ}{C:σ->Prop}(h:∃a0 a1 a2 a3 a4 a5 a6 a7 a8 a9 a10,τ=f a0 a1 a2 a3 a4 a5 a6 a7 a8 a9 a10/\p a0 a1 a2 a3 a4 a5 a6 a7 a8 a9 a10)(k:∀a0 a1 a2 a3 a4 a5 a6 a7 a8 a9 a10,p a0 a1 a2 a3 a4 a5 a6 a7 a8 a9 a10->C (f a0 a1 a2 a3 a4 a5 a6 a7 a8 a9 a10)):C τ:=by
 obtain⟨a0,a1,a2,a3,a4,a5,a6,a7,a8,a9,a10,e,h⟩:=h;rw[e];exact k _ _ _ _ _ _ _ _ _ _ _ h
variable {a0 a1 C:Prop}
theorem ae2 (h:a0/\a1)(k:a0->a1->C):C:=k h.1 h.2
variable {a2:Prop}
theorem ae3 (h:a0/\a1/\a2)(k:a0->a1->a2->C):C:=k h.1 h.2.1 h.2.2
variable {a3:Prop}
theorem ae4 (h:a0/\a1/\a2/\a3)(k:a0->a1->a2->a3->C):C:=k h.1 h.2.1 h.2.2.1 h.2.2.2
variable {a4:Prop}
theorem ae5 (h:a0/\a1/\a2/\a3/\a4)(k:a0->a1->a2->a3->a4->C):C:=k h.1 h.2.1 h.2.2.1 h.2.2.2.1 h.2.2.2.2
variable {a5:Prop}
theorem ae6 (h:a0/\a1/\a2/\a3/\a4/\a5)(k:a0->a1->a2->a3->a4->a5->C):C:=k h.1 h.2.1 h.2.2.1 h.2.2.2.1 h.2.2.2.2.1 h.2.2.2.2.2
theorem ae8 {a6 a7:Prop}(h:a0/\a1/\a2/\a3/\a4/\a5/\a6/\a7)(k:a0->a1->a2->a3->a4->a5->a6->a7->C):C:=k h.1 h.2.1 h.2.2.1 h.2.2.2.1 h.2.2.2.2.1 h.2.2.2.2.2.1 h.2.2.2.2.2.2.1 h.2.2.2.2.2.2.2
end L3
namespace L3
open PySem PySem.Spec PyProof.Rows L2
variable {X:Cx}
noncomputable def rCatS (K:PySem.W.Frag):R2:=fun x y H Q=>∃l b xs zs,x= .ref l/\y= .ref b/\SqL K H l xs/\SqL K H b zs/\xs.length+zs.length<=sizeLine/\∀p,H p=none->Q (.ref p) (upd H p (.lst (xs++zs)))
theorem qJ8:OpR X (binaryOp .Add) (rCatS X.K):=by
 intro pins s σ H x y v u Q I rx ry h
 obtain⟨l,b,xs,zs,rfl,rfl,hH,hB,hz,q⟩:=h
 cases rx
 cases ry
 obtain⟨its,r,⟨⟨cls,dd,data,sl⟩,n,e,hc,_,hd⟩,_⟩:=I.list hH
 obtain⟨its2,r2,⟨⟨cls2,dd2,data2,sl2⟩,n2,e2,hc2,_,hd2⟩,_⟩:=I.list hB
 simp only at hc hd hc2 hd2
 subst hc hd hc2 hd2
 have l1:=r.length
 have l2:=r2.length
 refine concat_meets ⟨_,e,rfl⟩ ⟨_,e2,rfl⟩ noFill_list_add seq_list_add PySem.F.slot_list_add PySem.F.entry_list_add (PySem.F.args_list_add_2 _ _) (list_addW l b its.toArray its2.toArray n n2 dd dd2 sl sl2 (by rw[List.size_toArray,List.size_toArray];omega)) ⟨e,e2,?_⟩
 have ea:its.toArray++its2.toArray=(its++its2).toArray:=by simp
 rw[ea]
 exact⟨.ref _,_,I.lnew (t':=s.toks) (r.append r2) (by rw[List.length_append];omega),rfl,q _ I.fresh⟩
def rAddS:R3:=fun x y G Q=>match x with
 | .scr xs=>∃ys,jVk G y=some ys/\xs.length+ys.length<=sizeLine/\∀l,G l=none->Q (.ref l) (gup G l (.lst (xs++ys)))
 | _=>jKu x y G Q
theorem o_addS:Op3 X (binaryOp .Add) rAddS:=by
 have hc:Op3 X (binaryOp .Add) fun x y G Q=>∃xs ys,x= .scr xs/\jVk G y=some ys/\xs.length+ys.length<=sizeLine/\∀l,G l=none->Q (.ref l) (gup G l (.lst (xs++ys))):=
  Op3.of qJ8 fun H G x y a b Q hg ra rb ⟨xs,ys,ex,hy,hz,h⟩=>by
   subst ex
   obtain⟨p,vs,rfl,h1,h2⟩:=jQr hg ra (show jVk G (.scr xs)=some xs from rfl)
   obtain⟨q,ws,rfl,h3,h4⟩:=jQr hg rb hy
   exact⟨p,q,vs,ws,rfl,rfl,h1,h3,by rw[<-h2.length,<-h4.length];exact hz,fun l hl=>⟨.ref l,_,.upd (.none hl),hg.lstNew (h2.append h4) (.none hl),rfl,h l (hg.fresh hl)⟩⟩
 refine (o_addF.or hc).imp fun x y G Q h=> ?_
 cases x with
 | scr xs=>obtain⟨ys,h1,h2,h3⟩:=h;exact .inr ⟨xs,ys,rfl,h1,h2,h3⟩
 | _=>exact .inl h
variable {w:World}{A:Around}{E:Value->Shared->Prop}{s:Shared}
section
variable {P:Program}{d it:Addr}{o:Obj}{es:Array DictEntry}{ep i:Nat}
theorem kUc {K:Type}[DecidableEq K](knd:HeapKind P w K)(a:Addr)(hd:(d == sysModules)=false):
  MeetsIn P w (Builtin.«dict.get» ⟨[.ref d,.ref a],[]⟩) (fun A R s=>knd.room A.in1/\∃k xs,knd.is s.heap k a/\s.heap.DictOfH knd d xs/\R (.ok (.ret (((atKey xs k).map (·.2)).getD .none))) {s with toks:=s.toks+knd.draws k}):=
 .of_wp fun A R (s) ⟨hu,k,xs,hkey,hm,h⟩=>by
  unfold Builtin.«dict.get»; refine wpAny_bind ?_
  unfold Builtin.Dict.keyAndDefault;refine wpAny_bind (wpAny_notOrdered_dict hm.typeIs ?_)
  refine (show wpAny _ _ (pure (d,Value.ref a,none)) _ _ s from wpAny_pure ?_)
  refine wpAny_bind (m:=dictGet d (.ref a)) (wpAny_dictGet_heap hu hkey hm ?_)
  cases e:(atKey xs k).map (·.2) with
  | some v=>rw[e] at h;exact wpAny_pure ⟨_,rfl,h⟩
  | none=>
   rw[e] at h
   refine wpAny_bind (m:=Builtin.Dict.missed d (.ref a)) ?_
   unfold Builtin.Dict.missed
   rw[if_neg (by rw[hd];exact (Bool.false_ne_true))]
   exact wpAny_pure (wpAny_pure ⟨_,rfl,h⟩)
end
def jY4:T->List T->Gp->VK3->Prop:=fun x as G Q=>∃p ys o,x= .ref p/\as=[.tup ys]/\dAt G (.ref p) (.tup ys)=some o/\Q (o.getD .non) G
theorem kVv (hu:X.A.units+20<cLine):Mt3 X "dict.get" jY4:=by
 rintro pins s τ G H x as v us Q ⟨σ,I,hs,hg⟩ ⟨a,ra,rv⟩ ⟨bs,rbs,rus⟩ ⟨p,ys,o,ex,ea,hd,q⟩
 subst ex;subst ea
 cases (show a= .ref p from ra);cases rv
 obtain⟨b,rfl,rb⟩:=jVr rbs
 obtain⟨u1,rfl,ru1⟩:=rus.one
 obtain⟨p',ov,ep,g,e1,e2⟩:=jX3 hg ra rb hd
 cases ep
 obtain⟨q',vs,e,h3,h4⟩:=(show ∃q vs,b= .ref q/\H q=some (.tup vs)/\Reps X.K H ys vs from rb)
 subst e
 cases (show u1=Value.ref q' from ru1)
 rcases g with ⟨kvs,k,e,ey,l⟩ | ⟨kvs,k,b,e,ey,eb,l⟩
 ·cases k<;>cases ey
 ·cases ey
  obtain⟨z,hdd,xs,rel,dd⟩:=kKs I.hok e
  refine call_meetsIn PySem.F.slot_dict_get dd.typeIs PySem.F.entry_dict_get (PySem.F.args_dict_get_2 _ _) (kUc (jJ2 X.prog X.w) q' hdd) ⟨jJv hu,k,xs,jXw I.hok eb,dd,?_⟩
  have ro:=rel.val k
  rw[<-l] at ro
  cases ov with
  | none=>
   cases o with
   | some t=>cases e1
   | none=>
    cases ea:atKey xs k with
    | some pp=>rw[ea] at ro;exact (show False from ro).elim
    | none=>exact⟨.non,G,H,.refl H,⟨σ,I.tok _,hs,hg⟩,⟨.non,rfl,rfl⟩,q⟩
  | some wv=>
   cases o with
   | none=>cases e1
   | some t=>
    obtain⟨wv',e',rt⟩:=e2 t rfl
    cases e'
    cases ea:atKey xs k with
    | none=>rw[ea] at ro;exact (show False from ro).elim
    | some pp=>rw[ea] at ro;exact⟨t,G,H,.refl H,⟨σ,I.tok _,hs,hg⟩,⟨wv,rt,ro⟩,q⟩
theorem jVh {α β:Type} {F:α->β->Prop}:∀ {l:List α} {m:List β} {i:Nat} {x:α},Paired F l m->l[i]? =some x->∃y,m[i]? =some y/\F x y
 | _,_,_,_,.nil,h=>by simp at h
 | _,_,0,_,.cons r t,h=>by cases h;exact⟨_,rfl,r⟩
 | _,_,i+1,_,.cons r t,h=>jVh (i:=i) t h
section
open PySem.SeqAt
open PySem.AutoSeq1 (wpAny_loadPart')
open PySem.MeetsSeq PySem.MeetsSeq2 PySem.MeetsSeq3
end
section
variable {prog:Program}
end
def CN (K:PySem.W.Frag)(cn:Str)(C:Addr):Prop:=PySem.W.nsIn K mainGlobals cn=some (some (.ref C))
variable {K:PySem.W.Frag}{cn:Str}
theorem CN.one {C D:Addr}(h:CN K cn C)(h':CN K cn D):C=D:=by
 unfold CN at h h';rw[h] at h';cases h';rfl
structure ObF (K:PySem.W.Frag) (cn f:Str):Prop where
 ex:∃C,CN K cn C/\Cls K C/\NoAttr K C f
def jU0 (f:Str) (t:T):List (Str×T)->List (Str×T)
 | []=>[(f,t)]
 | (g,x)::r=>if g=f then (g,t)::r else (g,x)::jU0 f t r
def fldT (f:Str):List (Str×T)->Option T
 | []=>none
 | (g,x)::r=>if g=f then some x else fldT f r
variable {H:Hp}{ws:List (Str×V)}
theorem jXn {fs:List (Str×T)}(h:PKV K H fs ws)(f:Str):
  (fldT f fs=none->ws.lookup f=none)/\∀t,fldT f fs=some t->∃v,ws.lookup f=some v/\Rep K H t v:=by
 unfold PKV at h
 induction h with
 | nil=>exact⟨fun _=>rfl,fun t e=>by cases e⟩
 | @cons a b l m r _ ih=>
  obtain⟨g,x⟩:=a;obtain⟨g',v⟩:=b;obtain⟨e,rv⟩:=r;cases e
  by_cases q:g=f
  ·subst q
   refine⟨fun e=> ?_,fun t e=> ?_⟩
   ·simp[fldT] at e
   ·simp only[fldT,if_true] at e;cases e;exact⟨v,by simp[List.lookup],rv⟩
  ·have e2:List.lookup f ((g,v)::m)=List.lookup f m:=by
    have:(f == g)=false:=by simp;exact fun z=>q z.symm
    simp only[List.lookup,this]
   rw[e2];simp only[fldT,q,if_false];exact ih
theorem qJ4 {fs:List (Str×T)}(h:PKV K H fs ws)(f:Str){t:T}{v:V}(r:Rep K H t v):PKV K H (jU0 f t fs) (putF f v ws):=by
 unfold PKV at h ⊢
 induction h with
 | nil=>exact .cons ⟨rfl,r⟩ .nil
 | @cons a b l m r0 ht ih=>
  obtain⟨g,x⟩:=a;obtain⟨g',u⟩:=b;obtain⟨e,rv⟩:=r0;cases e
  by_cases q:g=f
  ·simp only[jU0,putF,q,if_true];exact .cons ⟨rfl,r⟩ ht
  ·simp only[jU0,putF,q,if_false];exact .cons ⟨rfl,rv⟩ ih
def fldR (cn f:Str)(G:Gp):T->Option T
 | .ref a=>match G a with
  | some (.ins c fs)=>if c=cn then fldT f fs else none
  | _=>none
 | _=>none
noncomputable def jXe (cn f:Str)(G:Gp)(x y:T):Option Gp:=match x with
 | .ref a=>match G a with
  | some (.ins c fs)=>if c=cn/\fs.length<1000 then some (gup G a (.ins c (jU0 f y fs))) else none
  | _=>none
 | _=>none
def obR (cn m:Str)(G:Gp):T->Bool
 | .ref a=>match G a with
  | some (.ins c fs)=>decide (c=cn)&&(fldT m fs).isNone
  | _=>false
 | _=>false
variable {f:Str}{G:Gp}{x:T}
theorem kUj {t:T}(h:fldR cn f G x=some t):∃a fs,x= .ref a/\G a=some (.ins cn fs)/\fldT f fs=some t:=by
 unfold fldR at h
 split at h
 ·rename_i a
  split at h
  ·rename_i c fs hG
   split at h
   ·rename_i e;subst e;exact⟨a,fs,rfl,hG,h⟩
   ·cases h
  ·cases h
 ·cases h
theorem kJ1 {G':Gp}{t:T}(h:jXe cn f G x t=some G'):∃a fs,x= .ref a/\G a=some (.ins cn fs)/\fs.length<1000/\G'=gup G a (.ins cn (jU0 f t fs)):=by
 unfold jXe at h
 split at h
 ·rename_i a
  split at h
  ·rename_i c fs hG
   split at h
   ·rename_i e;obtain⟨e,l⟩:=e;subst e;cases h;exact⟨a,fs,rfl,hG,l,rfl⟩
   ·cases h
  ·cases h
 ·cases h
variable {m:Str}
theorem jU3 (h:obR cn m G x=true):∃a fs,x= .ref a/\G a=some (.ins cn fs)/\fldT m fs=none:=by
 unfold obR at h
 split at h
 ·rename_i a
  split at h
  ·rename_i c fs hG
   rw[Bool.and_eq_true,decide_eq_true_iff] at h
   obtain⟨e,l⟩:=h;subst e;exact⟨a,fs,rfl,hG,by simpa using l⟩
  ·cases h
 ·cases h
def tFld (cn f:Str)(ta:TE3):TE3:=fun τ G Q=>ta τ G fun x G1=>∃t,fldR cn f G1 x=some t/\Q t G1
def jYt (cn f:Str)(ta tv:TE3):TS3:=fun D τ G=>tv τ G fun y G1=>ta τ G1 fun x G2=>∃G3,jXe cn f G2 x y=some G3/\D.nx τ G3
def jVq (cn m:Str)(sp:Sp3)(ta:TE3)(t:TA3):TE3:=fun τ G Q=>ta τ G fun x G1=>obR cn m G1 x=true/\t τ G1 fun xs G2=>sp (x::xs) G2 Q
def qJr (cn:Str)(sp:Sp3)(t:TA3):TE3:=fun τ G Q=>t τ G fun xs G1=>∀x,G1 x=none->sp (.ref x::xs) (gup G1 x (.ins cn [])) fun v G2=>v= .non/\Q (.ref x) G2
variable {pl:Sem Bool}
section
variable {pos pos' apos p:Pos}{e o value:Expr}{es:List Expr}{ta tv:TE3}{t:TA3}{k:Nat}{ps:List Str}{sp:Sp3}
theorem jQb (c:ObF X.K cn f)(he:PE3 X e ta)(hb:attributeBase e f X.env (eval e X.env)=eval e X.env:=by rfl):PE3 X (.Attribute e f pos) (tFld cn f ta):=by
 intro pins s τ G H Q I h
 obtain⟨C,hC,hc,hn⟩:=c.ex
 refine kX7 hb (thn (he pins s τ G H _ I h) fun u s1 w_=>w_.el fun x G1 H1 e1 i_ r_ q=>i_.el fun σ I1 hs1 hg1=>r_.el fun v rv ru=> ?_)
 obtain⟨t,ht,q⟩:=q
 obtain⟨a,fs,rfl,hG,hf⟩:=kUj ht
 cases (show v= .ref a from rv)
 obtain rfl:u=Value.ref a:=ru
 obtain⟨C',dx,ws,hH,hC',pk⟩:=(show ∃C dx ws,H1 a=some (.ins C dx ws)/\CN X.K cn C/\PKV X.K H1 fs ws from hg1 a _ hG)
 cases hC.one hC'
 obtain⟨v',hl,rv'⟩:=(jXn pk f).2 t hf
 exact kUi I1 hH hc hn hl fun u' s2 I2 ru'=>⟨t,G1,H1,e1,⟨σ,I2,hs1,hg1⟩,⟨v',rv',ru'⟩,q⟩
theorem kQ5 (c:ObF X.K cn f)(ha:PE3 X o ta)(hv:PE3 X value tv)(hs:swapsWith value (some (.Attribute o f pos')) pos.line X.env=pure false:=by rfl):PS3 X (.Assign [.Attribute o f pos'] value pos) (jYt cn f ta tv):=by
 intro pins s τ G H D I h
 obtain⟨C,hC,hc,hn⟩:=c.ex
 refine plainObj_wpAny_Assign_Attribute (thn (hv pins s τ G H _ I h) fun u s1 w_=>w_.el fun y G1 H1 e1 I1 ry q1=>thn (ha pins s1 τ G1 H1 _ I1 q1) fun ov s2 w_=>w_.el fun x G2 H2 e2 i_ r_ q=>i_.el fun σ I2 hs2 hg2=>r_.el fun v rv ru=> ?_) hs
 obtain⟨G3,ht,q⟩:=q
 obtain⟨a,fs,rfl,hG,hl,rfl⟩:=kJ1 ht
 cases (show v= .ref a from rv)
 obtain rfl:ov=Value.ref a:=ru
 obtain⟨C',dx,ws,hH,hC',pk⟩:=(show ∃C dx ws,H2 a=some (.ins C dx ws)/\CN X.K cn C/\PKV X.K H2 fs ws from hg2 a _ hG)
 cases hC.one hC'
 obtain⟨vy,rvy,ruy⟩:=ry.mono e2
 refine kQ3 I2 hH hc hn (by rw[<-show fs.length=ws.length from Paired.length pk];exact hl) ruy fun s3 I3=> ?_
 have ext:Ext H2 (upd H2 a (.ins C dx (putF f vy ws))):= .upd (.ins hH)
 exact⟨τ,_,_,(e1.trans e2).trans ext,⟨σ,I3,hs2.mono ext,hg2.upd (.ins hH) (go:= .ins cn (jU0 f y fs)) ⟨C,dx,_,jJn,hC,(qJ4 pk f rvy).mono ext⟩⟩,q⟩
structure CalM (P:Program) (w:World) (K:PySem.W.Frag) (mg:Str->Option Value) (base:Heap) (k:Nat) (cn m:Str) (ps:List Str) (sp:Sp3):Prop where
 ex:∃C f fd,CN K cn C/\Cls K C/\Meth K C m f/\Fn3 P w K mg base k f fd ps sp/\Binds K fd ps []
 mono:Mono sp
 len:∀xs G Q,sp xs G Q->xs.length=ps.length
structure CalC (P:Program) (w:World) (K:PySem.W.Frag) (mg:Str->Option Value) (base:Heap) (k:Nat) (cn:Str) (ps:List Str) (sp:Sp3):Prop where
 ex:∃C f fd,CN K cn C/\mg cn=some (.ref C)/\Mk K C f/\Fn3 P w K mg base k f fd ps sp/\Binds K fd ps []
 mono:Mono sp
 len:∀xs G Q,sp xs G Q->xs.length=ps.length
theorem e_meth (M:CalM X.prog X.w X.K X.mg X.base k cn m ps sp)(hr:Room k X.A)(he:PE3 X o ta)(ha:PA3 X (e::es) t)(hst:starEach (e::es) X.env=(false,eval e X.env)::starEach es X.env:=by rfl)(hpl:(backTo pos (starEach es X.env)).any (·.1)=false:=by rfl)(ht:eval (.Call (.Attribute o m apos) (e::es) [] pos) X.env=(do
   let ov <-eval o X.env
   standAt apos.atName
   let (f,first) <-holding [ov] (getMethod ov m pl)
   callWith pos f first (backTo pos (starEach (e::es) X.env)) (backToKw pos (keywordEach [] X.env))):=by rfl):
  PE3 X (.Call (.Attribute o m apos) (e::es) [] pos) (jVq cn m sp ta t):=by
 intro pins s τ G H Q I h
 obtain⟨C,f,fd,hC,hc,hm,F,hb⟩:=M.ex
 refine PySem.W.methodCall_KW (pl:=pl) (thn (he pins s τ G H _ I h) fun u s1 w_=>w_.el fun x G1 H1 e1 I1 r_ q=>r_.el fun v rv ru=> ?_) ht
 obtain⟨ob,q⟩:=q
 obtain⟨a,fs,rfl,hG,hf⟩:=jU3 ob
 cases (show v= .ref a from rv)
 obtain rfl:u=Value.ref a:=ru
 obtain⟨σ,J1,hs1,hg1⟩:=id I1
 obtain⟨C',dx,ws,hH,hC',pk⟩:=(show ∃C dx ws,H1 a=some (.ins C dx ws)/\CN X.K cn C/\PKV X.K H1 fs ws from hg1 a _ hG)
 cases hC.one hC'
 refine jUb J1 hH hc hm ((jXn pk m).1 hf) ?_
 refine PySem.W.callWith_K (first:=[.ref a]) (h₀:=X.base) J1.ok.mod.kin hm.kp (thn (ha pos pins s1 τ G1 H1 _ I1 q) fun us s2 w_=>w_.el fun xs G2 H2 e2 i_ r_ q2=>i_.el fun σ2 I2 hs2 hg2=>r_.el fun as ras rvs=>⟨I2.kIn,?_⟩) hst hpl
 refine thn (kVb (us:= .ref a::us) (vs:= .ref a::as) (dvs:=[]) (ds:=[]) (E:=E0) (Q:=up X.K H2 Q) F hr hb .nil kY5 I2 (.cons rfl rvs) ?_) fun u s' z=>(jQo hs2 z).ext (e1.trans e2)
 rw[List.append_nil]
 have rr:Reps X.K H2 (.ref a::xs) (.ref a::as):=⟨_,_,rfl,rfl,ras⟩
 exact⟨by rw[<-rr.length];exact M.len _ _ _ q2,_,G2,rr,hg2,M.mono _ _ _ _ (fun t G' hq v H' e g r=>⟨t,G',e,g,r,hq⟩) q2⟩
theorem jX1 (M:CalM X.prog X.w X.K X.mg X.base k cn m ps sp)(hr:Room k X.A)(he:PE3 X o ta)(ht:eval (.Call (.Attribute o m apos) [] [] pos) X.env=(do
   let ov <-eval o X.env
   standAt apos.atName
   let (f,first) <-holding [ov] (getMethod ov m pl)
   callWith pos f first (backTo pos (starEach [] X.env)) (backToKw pos (keywordEach [] X.env))):=by rfl):
  PE3 X (.Call (.Attribute o m apos) [] [] pos) (jVq cn m sp ta tNil):=by
 intro pins s τ G H Q I h
 obtain⟨C,f,fd,hC,hc,hm,F,hb⟩:=M.ex
 refine PySem.W.methodCall_KW (pl:=pl) (thn (he pins s τ G H _ I h) fun u s1 w_=>w_.el fun x G1 H1 e1 i_ r_ q=>i_.el fun σ J1 hs1 hg1=>r_.el fun v rv ru=> ?_) ht
 obtain⟨ob,q⟩:=q
 obtain⟨a,fs,rfl,hG,hf⟩:=jU3 ob
 cases (show v= .ref a from rv)
 obtain rfl:u=Value.ref a:=ru
 obtain⟨C',dx,ws,hH,hC',pk⟩:=(show ∃C dx ws,H1 a=some (.ins C dx ws)/\CN X.K cn C/\PKV X.K H1 fs ws from hg1 a _ hG)
 cases hC.one hC'
 refine jUb J1 hH hc hm ((jXn pk m).1 hf) ?_
 refine PySem.W.callWith_K0 (first:=[.ref a]) J1.kIn hm.kp ?_
 refine thn (kVb (us:=[.ref a]) (vs:=[.ref a]) (dvs:=[]) (ds:=[]) (E:=E0) (Q:=up X.K H1 Q) F hr hb .nil kY5 J1 (.cons rfl .nil) ?_) fun u s' z=>(jQo hs1 z).ext e1
 rw[List.append_nil]
 have rr:Reps X.K H1 [.ref a] [.ref a]:=⟨_,_,rfl,rfl,rfl⟩
 exact⟨by rw[<-rr.length];exact M.len _ _ _ q,_,G1,rr,hg1,M.mono _ _ _ _ (fun t G' hq v H' e g r=>⟨t,G',e,g,r,hq⟩) q⟩
theorem e_make (M:CalC X.prog X.w X.K X.mg X.base k cn ps sp)(hr:Room (k+1) X.A)(ha:PA3 X (e::es) t)(hg:Gl X cn:=by rfl)(hdb:(cn == ("__debug__":Str))=false:=by decide)(he:starEach (e::es) X.env=(false,eval e X.env)::starEach es X.env:=by rfl)(hpl:(backTo pos (starEach es X.env)).any (·.1)=false:=by rfl):
  PE3 X (.Call (.Name cn p) (e::es) [] pos) (qJr cn sp t):=by
 intro pins s τ G H Q I h
 obtain⟨C,f,fd,hC,hm,hmk,F,hb⟩:=M.ex
 obtain⟨σ0,I0,hs0,hg0⟩:=id I
 refine wpAny_Call_Name_kw (jUn I0 hg hm ?_ hdb)
 refine PySem.W.callWith_K (h₀:=X.base) I0.ok.mod.kin hmk.kp (thn (ha pos pins s τ G H _ I h) fun us s1 w_=>w_.el fun xs G1 H1 e1 i_ r_ q=>i_.el fun σ I1 hs1 hg1=>r_.el fun as ras rvs=>⟨I1.kIn,?_⟩) he hpl
 refine thn (kYv (dvs:=[]) (ds:=[]) (E:=E0) (Q:=up X.K H1 Q) hmk F hr hb .nil kY5 I1 rvs fun x dx hx hdx ne=> ?_) fun u s' z=>(jQo hs1 z).ext e1
 rw[List.append_nil]
 have x1:Ext H1 (upd H1 dx (.own x)):= .upd (.none hdx)
 have hx1:upd H1 dx (.own x) x=none:=by rw[jJk ne.symm];exact hx
 have x2:Ext (upd H1 dx (.own x)) (upd (upd H1 dx (.own x)) x (.ins C dx [])):= .upd (.none hx1)
 have g1:GRel X.K (upd H1 dx (.own x)) G1:=fun b u eb=>by
  have hb:b≠dx:=by rintro rfl;exact (hg1 b u eb).some hdx
  exact (hg1 b u eb).move x1 (jJk hb)
 have g2:GRel X.K (upd (upd H1 dx (.own x)) x (.ins C dx [])) (gup G1 x (.ins cn [])):=g1.upd (.none hx1) ⟨C,dx,[],jJn,hC,.nil⟩
 have rr:Reps X.K (upd (upd H1 dx (.own x)) x (.ins C dx [])) (.ref x::xs) (.ref x::as):=⟨_,_,rfl,rfl,Reps.mono (x1.trans x2) _ ras⟩
 have q':=q x (hg1.fresh hx)
 refine⟨by rw[<-rr.length];exact M.len _ _ _ q',_,_,rr,g2,M.mono _ _ _ _ (fun t G' hq v H' e g r=> ?_) q'⟩
 obtain⟨e0,hq⟩:=hq
 subst e0
 exact⟨r,.ref x,G',(x1.trans x2).trans e,g,rfl,hq⟩
end
end L3
namespace L3
open PySem PySem.Spec PyProof.Rows L2 PySem.W
noncomputable def Dk {α:Type}:Sem α->Prop
 | .pure _=>True
 | .raise _=>True
 | .unsupported _=>True
 | .finish _=>True
 | .rule _ k=>Dk (k ())
 | .at _ k=>Dk (k ())
 | .load _ _ k=>∀o,Dk (k o)
 | .update _ _ f k=>(∀o,(f o).dict=o.dict/\(f o).isFreed=o.isFreed)/\Dk (k ())
 | .alloc _ k=>∀a,Dk (k a)
 | .loadIfAlive _ k=>∀o,Dk (k o)
 | .point _ k=>Dk (k ())
 | .register _ _=>True
 | .fresh k=>∀t,Dk (k t)
 | .ask k=>∀x,Dk (k x)
 | .choose _ _ k=>∀n,Dk (k n)
 | .os _ _ k=>∀r,Dk (k r)
 | .call _ _ _ _ _=>False
 | .handled _ k=>∀v,Dk (k v)
 | .newGen _ k=>∀n,Dk (k n)
 | .genState _ k=>∀x,Dk (k x)
 | .resume _ _ _ _=>False
 | .yield _ _ _ _=>True
 | .stack k=>∀l,Dk (k l)
 | .fork _ _=>True
 | .thread k=>∀n,Dk (k n)
 | .await _ _ _ _ _=>True
def jX9 (e:Addr)(d:Option Addr)(h:Heap):Prop:=∃o,h.get? e=some o/\o.dict=d
variable {h:Heap}{e:Addr}
theorem kZ2 {o:Obj}(q:h.get? e=some o):o.isFreed=false:=(Heap.get?_some_iff.mp q).2
variable {M:Model}{d:Option Addr}
theorem Dk.wp {Γ:PySem.Ctx}{α:Type}{t:Sem α}(hk:Dk t):∀ {Q:α->Pos->Shared->Prop} {E:Value->Pos->Shared->Prop} {p:Pos} {s:Shared},Sem.wp M Γ t Q E p s->jX9 e d s.heap->Sem.wp M Γ t (fun a p s'=>Q a p s'/\jX9 e d s'.heap) E p s:=by
 induction t with
 | pure a=>intro Q E p s h hd;rw[Sem.wp] at h ⊢; exact⟨h,hd⟩
 | raise v=>intro Q E p s h hd;rw[Sem.wp] at h ⊢; exact h
 | unsupported w=>intro Q E p s h hd;rw[Sem.wp] at h;exact h.elim
 | finish w=>intro Q E p s h hd;rw[Sem.wp] at h;exact h.elim
 | rule t k ih=>intro Q E p s h hd;rw[Sem.wp] at h ⊢; exact ih () hk h hd
 | «at» q k ih=>intro Q E p s h hd;rw[Sem.wp] at h ⊢; exact ih () hk h hd
 | load a pt k ih=>intro Q E p s h hd;rw[Sem.wp] at h ⊢; obtain⟨o,h1,h2⟩:=h;exact⟨o,h1,ih o (hk o) h2 hd⟩
 | update a pt f k ih=>
  intro Q E p s h hd
  rw[Sem.wp] at h ⊢
  refine⟨h.1,ih () hk.2 h.2 ?_⟩
  obtain⟨o,ho,q⟩:=hd
  by_cases z:e=a
  ·subst z
   exact⟨f o,Heap.get?_update_self f ho ((hk.1 o).2.trans (kZ2 ho)),(hk.1 o).1.trans q⟩
  ·exact⟨o,(Heap.get?_update_other _ _ (Ne.symm z)).trans ho,q⟩
 | alloc o k ih=>
  intro Q E p s h hd
  rw[Sem.wp] at h ⊢
  obtain⟨u,hu,q⟩:=hd
  exact ih _ (hk _) h ⟨u,Heap.get?_push_of_some _ hu,q⟩
 | loadIfAlive a k ih=>intro Q E p s h hd;rw[Sem.wp] at h ⊢; exact ih _ (hk _) h hd
 | point l k ih=>intro Q E p s h hd;rw[Sem.wp] at h ⊢; exact ih () hk h hd
 | register a k ih=>intro Q E p s h hd;rw[Sem.wp] at h;exact h.elim
 | fresh k ih=>intro Q E p s h hd;rw[Sem.wp] at h ⊢; exact ih _ (hk _) h hd
 | ask k ih=>intro Q E p s h hd;rw[Sem.wp] at h ⊢; exact ih _ (hk _) h hd
 | choose src n k ih=>intro Q E p s h hd;rw[Sem.wp] at h ⊢; exact⟨h.1,ih _ (hk _) h.2 hd⟩
 | os q l k ih=>intro Q E p s h hd;rw[Sem.wp] at h ⊢; exact ih _ (hk _) h hd
 | call c hh g l k ih=>exact hk.elim
 | handled own k ih=>intro Q E p s h hd;rw[Sem.wp] at h ⊢; exact ih _ (hk _) h hd
 | newGen c k ih=>intro Q E p s h hd;rw[Sem.wp] at h ⊢; exact ih _ (hk _) h hd
 | genState g k ih=>intro Q E p s h hd;rw[Sem.wp] at h ⊢; obtain⟨o,h1,h2⟩:=h;exact⟨o,h1,ih _ (hk _) h2 hd⟩
 | resume g r l k ih=>exact hk.elim
 | yield v g l k ih=>intro Q E p s h hd;rw[Sem.wp] at h;exact h.elim
 | stack k ih=>intro Q E p s h hd;rw[Sem.wp] at h ⊢; exact ih _ (hk _) h hd
 | fork c k ih=>intro Q E p s h hd;rw[Sem.wp] at h;exact h.elim
 | thread k ih=>intro Q E p s h hd;rw[Sem.wp] at h ⊢; exact ih _ (hk _) h hd
 | await a t tm l k ih=>intro Q E p s h hd;rw[Sem.wp] at h;exact h.elim
variable {A:Around}{E:Value->Shared->Prop}{s:Shared}
theorem Dk.any {α:Type}{t:Sem α}(hk:Dk t){Q:α->Shared->Prop}(h:wpAny M A t Q E s)(hd:jX9 e d s.heap):wpAny M A t (fun a s'=>Q a s'/\jX9 e d s'.heap) E s:=fun Γ p hΓ=>hk.wp (h Γ p hΓ) hd
theorem Dk.bind {α β:Type}{t:Sem α}{f:α->Sem β}(ht:Dk t)(hf:∀a,Dk (f a)):Dk (t >>= f):=by
 show Dk (t.bind f)
 induction t with
 | pure a=>exact hf a
 | raise v=>trivial
 | unsupported w=>trivial
 | finish w=>trivial
 | rule t k ih=>exact ih () ht
 | «at» q k ih=>exact ih () ht
 | load a pt k ih=>exact fun o=>ih o (ht o)
 | update a pt g k ih=>exact⟨ht.1,ih () ht.2⟩
 | alloc o k ih=>exact fun a=>ih a (ht a)
 | loadIfAlive a k ih=>exact fun o=>ih o (ht o)
 | point l k ih=>exact ih () ht
 | register a k ih=>trivial
 | fresh k ih=>exact fun o=>ih o (ht o)
 | ask k ih=>exact fun o=>ih o (ht o)
 | choose src n k ih=>exact fun o=>ih o (ht o)
 | os q l k ih=>exact fun o=>ih o (ht o)
 | call c hh g l k ih=>exact ht.elim
 | handled own k ih=>exact fun o=>ih o (ht o)
 | newGen c k ih=>exact fun o=>ih o (ht o)
 | genState g k ih=>exact fun o=>ih o (ht o)
 | resume g r l k ih=>exact ht.elim
 | yield v g l k ih=>trivial
 | stack k ih=>exact fun o=>ih o (ht o)
 | fork c k ih=>trivial
 | thread k ih=>exact fun o=>ih o (ht o)
 | await a t tm l k ih=>trivial
theorem jJ3 {α:Type}{a:α}:Dk (Pure.pure a:Sem α):=trivial
theorem jUg {α:Type}{w:String}:Dk (unsupported w:Sem α):=trivial
variable {a:Addr}
theorem kKt:Dk (load a):=fun _=>trivial
variable {v:Value}
theorem kKu:Dk (fieldsOf v):=by
 unfold fieldsOf
 split
 ·refine Dk.bind kKt fun o=> ?_
  split
  ·exact jJ3
  ·exact jUg
 ·exact jUg
variable {i:Nat}
theorem jV4:Dk (field v i):=by
 unfold field
 refine Dk.bind kKu fun vs=> ?_
 split
 ·exact jJ3
 ·exact jUg
theorem jZ7 (f:Array Value->Array Value)(o:Obj):(Obj.mapFields f o).dict=o.dict/\(Obj.mapFields f o).isFreed=o.isFreed:=by
 obtain⟨c,d,da,sl⟩:=o
 cases da<;>exact⟨rfl,rfl⟩
theorem jUs {x:Value}:Dk (setField v i x):=by
 unfold setField
 split
 ·unfold updateField
  refine Dk.bind kKt fun o=> ?_
  split
  ·split
   ·exact⟨jZ7 _,trivial⟩
   ·exact jUg
  ·exact jUg
 ·exact jUg
theorem dk_setFlight {e:Value}{f:Option Addr}:Dk (setFlight e f):=by
 unfold setFlight
 refine Dk.bind jV4 fun tb=> ?_
 split
 ·exact jUs
 ·exact jJ3
theorem kJm {ty:String}{vs:List Value}:Dk (newFields ty vs):=by
 unfold newFields newObj
 dsimp only
 have rest:Dk (newObjAsIs (.type ty) (.fields vs.toArray)):=by
  unfold newObjAsIs
  exact fun a=>trivial
 split
 ·exact jUg
 ·exact rest
theorem kQs:∀l:List Env,Dk (readyFrames l)
 | []=>trivial
 | env::outer=>by
  unfold readyFrames
  split
  ·refine Dk.bind kKt fun o=> ?_
   split
   ·exact jJ3
   ·refine Dk.bind ?_ fun i=>Dk.bind ?_ fun b=>Dk.bind ⟨fun o=>⟨rfl,by obtain⟨c,d,da,sl⟩:=o;cases da<;>rfl⟩,trivial⟩ fun _=>kQs outer
    ·unfold behindIsImport
     split
     ·exact jJ3
     ·split
      ·exact jJ3
      ·exact Dk.bind jV4 fun _=>jJ3
    ·unfold keptBack
     split
     ·split
      ·exact jJ3
      ·exact Dk.bind (Dk.bind (fun l=>trivial) fun _=>jJ3) fun _=>jJ3
     ·exact jJ3
  ·exact jUg
variable {env:Env}
theorem kUl:Dk (PySem.frameOf env):=by
 unfold PySem.frameOf
 refine Dk.bind ?_ fun l=>Dk.bind ?_ fun r=> ?_
 ·unfold frameEnvs
  exact Dk.bind (fun l=>trivial) fun _=>jJ3
 ·unfold frameObject
  split
  ·exact jJ3
  ·exact Dk.bind (kQs _) fun _=>jJ3
 ·split
  ·exact jJ3
  ·exact jUg
variable {f:Addr}{b:Bool}
theorem jZh:Dk (entryPlaceOf f b):=by
 unfold entryPlaceOf
 refine Dk.bind (fun l=>trivial) fun acts=> ?_
 split
 ·exact jJ3
 ·exact jJ3
theorem dk_noteFrame {e:Value}:Dk (noteFrame e env):=by
 unfold noteFrame
 split
 ·refine Dk.bind jV4 fun head=> ?_
  have fin:Dk (do setField e 1 (<-EntryCells.newEntry head (<-PySem.frameOf env) .none (rawInt ‹Addr›) .none (<-entryPlaceOf ‹Addr› (head != .none)))):=
   Dk.bind kUl fun _=>Dk.bind jZh fun _=>Dk.bind kJm fun _=>jUs
  split
  ·refine Dk.bind jV4 fun v=> ?_
   split
   ·exact jJ3
   ·exact Dk.bind jUs fun _=>fin
  ·exact fin
 ·exact jUg
theorem dk_leaving {e:Value}:Dk (leaving env e):=by
 unfold leaving
 exact Dk.bind dk_noteFrame fun _=>dk_setFlight
structure Lies (P:Program) (w:World) (outer:List Env) (H:Hp) (s:Shared) (a C:Addr) (B:Heap) (a0:Value×Option Addr) (H':Hp) (s':Shared):Prop where
 os:s'.os=s.os
 bare:AllBare s'.gens
 fly:Heap.FlyingW B outer a (.ref C) a0.1 s'.heap
 dct:jX9 a a0.2 s'.heap
 hok:HOk P w H' B
 keep:∀b o,s.heap.get? b=some o->H b=none->b∉frs outer->B.get? b=some o
 there:∀b o,s.heap.get? b=some o->b∉frs outer->∃o',B.get? b=some o'
 slot:∀b o,s.heap.get? b=some o->b∈frs outer->∃sl,s'.heap.get? b=some {o with slots:=sl}
 free:∀b o,s.heap.get? b=some o->H b=none->H' b=none
 tups:∀b xs,H b=some (.tup xs)->H' b=some (.tup xs)
 frzs:∀b o u,H b=some (.frz o u)->H' b=some (.frz o u)
 tbls:∀b ps,H b=some (.tbl ps)->∃more,H' b=some (.tbl (ps++more))
variable {P:Program}{w:World}{H H':Hp}{s':Shared}{C:Addr}{B:Heap}{a0:Value×Option Addr}
section
variable {outer:List Env}
theorem Lies.un (l:Lies P w outer H s a C B a0 H' s'):Un (frs outer) [] H H' s.heap s'.heap where
 keep:=fun b o h n f _=>l.fly.1 b o (l.keep b o h n f)
 slot:=fun b o h _ f _=>l.slot b o h f
 free:=fun b o h n _=>l.free b o h n
 there:=fun b o h _=>by
  by_cases f:b∈frs outer
  ·obtain⟨sl,e⟩:=l.slot b o h f
   exact⟨_,e⟩
  ·obtain⟨o',e⟩:=l.there b o h f
   exact⟨o',l.fly.1 b o' e⟩
 tups:=l.tups
 frzs:=l.frzs
 tbls:=l.tbls
theorem jZ2 {o:HO}(x:ObjOk P w H h a o):∃u,h.get? a=some u:=by
 induction o with
 | lst xs=>obtain⟨z,its,n,r,e⟩:=x;exact⟨_,e⟩
 | tup xs=>obtain⟨z,its,r,ob,e,c⟩:=x;exact⟨_,e⟩
 | dK kvs=>obtain⟨z,y,vs,r,ob,es,ep,e,c⟩:=x;exact⟨_,e⟩
 | dT kvs=>obtain⟨z,y,xs,r,ob,es,ep,e,c⟩:=x;exact⟨_,e⟩
 | set S n=>obtain⟨ob,es,ep,t,e,c⟩:=x;exact⟨_,e⟩
 | ins C dx fs=>obtain⟨d,z,ne,e,_⟩:=x;exact⟨_,e⟩
 | own y=>exact x
 | xd fs=>obtain⟨mA,⟨od,es,ep,e,c⟩,r⟩:=x;exact⟨_,e⟩
 | rng lo hi=>obtain⟨t,u,v,e⟩:=x;exact⟨_,e⟩
 | frz ob u ih=>obtain⟨e,q⟩:=x;exact⟨_,e⟩
 | tbl ps=>exact⟨_,x⟩
 | met f y=>exact⟨_,x⟩
 | ext φ=>obtain⟨p,e,st⟩:=x;exact e
theorem Lies.na (l:Lies P w outer H s a C B a0 H' s'):H' a=none:=by
 cases e:H' a with
 | none=>rfl
 | some o=>
  obtain⟨u,hu⟩:=jZ2 (l.hok a o e)
  rw[l.fly.2.1] at hu;cases hu
end
variable {X:Cx}{pins:List (Addr×Obj)}{σ:L2.St}{Q:Unit->Shared->Prop}
theorem kXe {l:List Env}:∀env∈l,∀b,env.frame=some b->b∈frs l:=fun env he b hb=>List.mem_filterMap.mpr ⟨env,he,hb⟩
theorem kZj (I:Inv X pins σ H s)(hs:X.stack=X.env::X.outer)(hf:X.env.frame=some X.env.locals)(hex:X.ex=[]){args:List Value}(hm:Heap.MadeExcOf s.heap s'.heap a (.ref C) args)(ho:s'.os=s.os)(hg:s'.gens=s.gens)(k:∀B a0 h',Lies X.prog X.w X.outer X.H₀ X.s₀ a C B a0 H {s' with heap:=h'}->Q () {s' with heap:=h'}):wpAny (model X.prog X.w) X.A (leaving X.env (.ref a)) Q E s':=by
 have hst:=I.stack
 have hfr:X.A.frames=some (X.env::X.outer):=by rw[I.ok.frames,hs]
 rw[hs] at hst
 have sub:∀b,b∈frs (X.env::X.outer)↔b=X.env.locals\/b∈frs X.outer:=fun b=>by
  unfold frs;rw[List.filterMap_cons,hf];exact List.mem_cons
 have inB:∀b o,s.heap.get? b=some o->b≠X.env.locals->b∉frs X.outer->(hideAll s.heap (frs (X.env::X.outer))).get? b=some o:=fun b o h n f=>
  hideAll_get _ h fun z=>((sub b).mp z).elim n f
 have nex:∀b,b∉X.ex:=fun b=>by rw[hex];exact List.not_mem_nil
 have old:∀b o,X.s₀.heap.get? b=some o->b≠X.env.locals:=fun b o h z=>by
  rw[z] at h;exact absurd (Heap.lt_size h) (Nat.not_lt.mpr I.ok.above)
 have hdn:jX9 a none s'.heap:=let ⟨_,q,_⟩:=hm.there;⟨_,q,rfl⟩
 refine wpAny_mono (dk_leaving.any (wpAny_leaves_madeW (Q:=fun _ s2=>∃(h':Heap) (t:Addr),s2={s' with heap:=h'}/\Heap.FlyingW (hideAll s.heap (frs (X.env::X.outer))) X.outer a (.ref C) (.ref t) h'/\s'.heap.UpToSlots h') hfr hf (fun b o h=>of_hideAll _ h) (funFrames_hide hst fun env he b hb=>kXe env he b hb) hm fun h' t fl tp nt up=>⟨h',t,rfl,fl,up⟩) hdn) (fun _ s2 ⟨⟨h',t,e,fl,up⟩,hdc⟩=> ?_) fun _ _ z=>z
 subst e
 refine k (hideAll s.heap (frs (X.env::X.outer))) (.ref t,none) h' ⟨ho.trans I.os,by rw[show ({s' with heap:=h'}:Shared).gens=s.gens from hg];exact I.bare,fl,hdc,?_,?_,?_,?_,fun b o h n=>I.base.free b o h n (nex b),I.base.tups,I.base.frzs,I.base.tbls⟩
 ·intro b o e
  refine (I.hok b o e).stay (fun c u hc h=>hideAll_get _ h fun z=> ?_) (fun _ q=>q) fun _ _ q=>q
  have hn:=I.stkFree c (by rw[hs];exact z)
  rcases hc with rfl | hc
  ·rw[e] at hn;cases hn
  ·rw[hc] at hn;cases hn
 ·intro b o h n f
  exact inB b o (I.base.keep b o h n f (nex b)) (old b o h) f
 ·intro b o h f
  obtain⟨o',h'⟩:=I.base.there b o h (nex b)
  exact⟨o',inB b o' h' (old b o h) f⟩
 ·intro b o h f
  obtain⟨sl,e1⟩:=I.base.slot b o h (I.ok.frf b f) f (nex b)
  obtain⟨_,o',ho',hd⟩:=I.funs.mem f
  rw[e1] at ho'
  cases ho'
  obtain⟨sl',e2⟩:=(Heap.UpToSlots.of_keeps hm.keeps).trans up b _ e1 hd
  exact⟨sl',e2⟩
theorem qKh (I:Inv X pins σ H s)(hs:X.stack=X.env::X.outer)(hf:X.env.frame=some X.env.locals)(hex:X.ex=[])(l:Lies X.prog X.w X.stack H s a C B a0 H' s')(k:∀h',Lies X.prog X.w X.outer X.H₀ X.s₀ a C B a0 H' {s' with heap:=h'}->Q () {s' with heap:=h'}):wpAny (model X.prog X.w) X.A (leaving X.env (.ref a)) Q E s':=by
 have hfr:X.A.frames=some (X.env::X.outer):=by rw[I.ok.frames,hs]
 have sub:∀b,b∈frs X.stack↔b=X.env.locals\/b∈frs X.outer:=fun b=>by
  rw[hs];unfold frs;rw[List.filterMap_cons,hf];exact List.mem_cons
 have nex:∀b,b∉X.ex:=fun b=>by rw[hex];exact List.not_mem_nil
 have old:∀b o,X.s₀.heap.get? b=some o->b≠X.env.locals:=fun b o h z=>by
  rw[z] at h;exact absurd (Heap.lt_size h) (Nat.not_lt.mpr I.ok.above)
 have nst:∀b o,X.s₀.heap.get? b=some o->b∉frs X.outer->b∉frs X.stack:=fun b o h f z=>((sub b).mp z).elim (old b o h) f
 refine wpAny_mono (dk_leaving.any (wpAny_leaves_onW (Q:=fun _ s2=>∃h':Heap,s2={s' with heap:=h'}/\Heap.FlyingW B X.outer a (.ref C) a0.1 h'/\s'.heap.UpToSlots h') hfr hf (by rw[<-hs];exact l.fly) fun h' fl up=>⟨h',rfl,fl,up⟩) l.dct) (fun _ s2 ⟨⟨h',e,fl,up⟩,hdc⟩=> ?_) fun _ _ z=>z
 subst e
 refine k h' ⟨l.os.trans I.os,l.bare,fl,hdc,l.hok,?_,?_,?_,?_,?_,?_,?_⟩
 ·intro b o h n f
  exact l.keep b o (I.base.keep b o h n f (nex b)) (I.base.free b o h n (nex b)) (nst b o h f)
 ·intro b o h f
  obtain⟨o',e⟩:=I.base.there b o h (nex b)
  exact l.there b o' e (nst b o h f)
 ·intro b o h f
  obtain⟨sl,e1⟩:=I.base.slot b o h (I.ok.frf b f) f (nex b)
  obtain⟨sl',e2⟩:=l.slot b _ e1 ((sub b).mpr (.inr f))
  obtain⟨_,o',ho',hd⟩:=I.funs.mem f
  rw[e1] at ho'
  cases ho'
  obtain⟨sl3,e3⟩:=up b _ e2 hd
  exact⟨sl3,e3⟩
 ·intro b o h n
  obtain⟨o',e⟩:=I.base.there b o h (nex b)
  exact l.free b o' e (I.base.free b o h n (nex b))
 ·exact fun b xs h=>l.tups b xs (I.base.tups b xs h)
 ·exact fun b o u h=>l.frzs b o u (I.base.frzs b o u h)
 ·intro b ps h
  obtain⟨m1,e1⟩:=I.base.tbls b ps h
  obtain⟨m2,e2⟩:=l.tbls b _ e1
  exact⟨m1++m2,by rw[e2,Array.append_assoc]⟩
theorem kVx (I:Inv X pins σ H s)(l:Lies X.prog X.w X.stack H s a C B a0 H' s')(hs:X.stack=X.env::X.outer)(hf:X.env.frame=some X.env.locals)(k:∀h',Inv X pins σ H' {s' with heap:=h'}->Lies X.prog X.w X.stack H s a C B a0 H' {s' with heap:=h'}->Q () {s' with heap:=h'}):
  wpAny (model X.prog X.w) X.A (noteFrame (.ref a) X.env) (fun _ s2=>wpAny (model X.prog X.w) X.A (setFlight (.ref a) none) Q E s2) E s':=by
 have hfr:X.A.frames=some (X.env::X.outer):=by rw[I.ok.frames,hs]
 refine wpAny_mono (dk_noteFrame.any (wpAny_looks_onW (Q:=fun _ s2=>∃h1:Heap,s2={s' with heap:=h1}/\Heap.HeldW B (X.env::X.outer) a (.ref C) a0.1 X.env.locals h1/\s'.heap.UpToSlots h1) hfr hf (by rw[<-hs];exact l.fly) fun h1 hd up1=>⟨h1,rfl,hd,up1⟩) l.dct) (fun _ s2 ⟨⟨h1,e1,hd,up1⟩,hdc1⟩=> ?_) fun _ _ z=>z
 subst e1
 refine wpAny_mono (dk_setFlight.any (wpAny_landsW (s:={s' with heap:=h1}) (Q:=fun _ s2=>∃h2:Heap,s2={s' with heap:=h2}/\Heap.FlyingW B (X.env::X.outer) a (.ref C) a0.1 h2/\h1.UpToSlots h2) hd fun h2 fl up2=>⟨h2,rfl,fl,up2⟩) hdc1) (fun _ s2 ⟨⟨h2,e2,fl,up2⟩,hdc⟩=> ?_) fun _ _ z=>z
 subst e2
 have l2:Lies X.prog X.w X.stack H s a C B a0 H' {s' with heap:=h2}:=by
  refine⟨l.os,l.bare,by rw[hs];exact fl,hdc,l.hok,l.keep,l.there,fun b o h f=> ?_,l.free,l.tups,l.frzs,l.tbls⟩
  obtain⟨sl,e⟩:=l.slot b o h f
  obtain⟨_,o',ho',hd'⟩:=I.stack.mem f
  rw[h] at ho'
  cases ho'
  obtain⟨sl2,e2⟩:=(up1.trans up2) b _ e hd'
  exact⟨sl2,e2⟩
 exact k h2 (I.call' l2.os l2.un (l2.hok.kept fun b u e=>l2.fly.1 b u e) l2.bare fun b z=>absurd z List.not_mem_nil) l2
abbrev exOb (C t:Addr)(dx:Option Addr):Obj:={cls:= .ref C,dict:=dx,data:= .fields #[.ref t,.none,.none,.none,.bool false,.none]}
def ExO (C e:Addr)(dx:Option Addr)(h:Heap):Prop:=∃t,h.get? e=some (exOb C t dx)
def off (e:Addr)(H:Hp):Hp:=fun b=>if b=e then none else H b
theorem kY9:off e H e=none:=if_pos rfl
theorem jU2 {b:Addr}(h:b≠e):off e H b=H b:=if_neg h
theorem kVw (I:Inv X pins σ H s)(hs:X.stack=X.env::X.outer)(hf:X.env.frame=some X.env.locals)(hex:X.ex=[]){dx:Option Addr}(he:H e=some (.ext (ExO C e dx)))(hn:X.s₀.heap.get? e=none)(k:∀B a0 h',Lies X.prog X.w X.outer X.H₀ X.s₀ e C B (a0,dx) (off e H) {s with heap:=h'}->Q () {s with heap:=h'}):wpAny (model X.prog X.w) X.A (leaving X.env (.ref e)) Q E s:=by
 have hst:=I.stack
 have hfr:X.A.frames=some (X.env::X.outer):=by rw[I.ok.frames,hs]
 rw[hs] at hst
 obtain⟨⟨t,ho⟩,_⟩:=(show ExO C e dx s.heap/\_ from I.hok e _ he)
 have sub:∀b,b∈frs (X.env::X.outer)↔b=X.env.locals\/b∈frs X.outer:=fun b=>by
  unfold frs;rw[List.filterMap_cons,hf];exact List.mem_cons
 have inB:∀b o,s.heap.get? b=some o->b≠e->b≠X.env.locals->b∉frs X.outer->(hideAll s.heap (e::frs (X.env::X.outer))).get? b=some o:=fun b o h ne n f=>
  hideAll_get _ h fun z=>(List.mem_cons.mp z).elim ne fun z=>((sub b).mp z).elim n f
 have nex:∀b,b∉X.ex:=fun b=>by rw[hex];exact List.not_mem_nil
 have old:∀b o,X.s₀.heap.get? b=some o->b≠X.env.locals:=fun b o h z=>by
  rw[z] at h;exact absurd (Heap.lt_size h) (Nat.not_lt.mpr I.ok.above)
 have olde:∀b o,X.s₀.heap.get? b=some o->b≠e:=fun b o h z=>by rw[z,hn] at h;cases h
 have hdn:jX9 e dx s.heap:=⟨_,ho,rfl⟩
 have hBe:(hideAll s.heap (e::frs (X.env::X.outer))).get? e=none:=hideAll_none _ (.head _)
 refine wpAny_mono (dk_leaving.any (wpAny_leaving_firstW (base:=hideAll s.heap (e::frs (X.env::X.outer))) (Q:=fun _ s2=>∃h':Heap,s2={s with heap:=h'}/\Heap.FlyingW (hideAll s.heap (e::frs (X.env::X.outer))) X.outer e (.ref C) (.ref t) h'/\s.heap.UpToSlots h') hfr
  (funFrames_hide hst fun env he b hb=>List.mem_cons_of_mem _ (kXe env he b hb)) hf ho (fun b o h=>of_hideAll _ h) hBe rfl rfl rfl fun h' hL=> ?_) hdn) (fun _ s2 ⟨⟨h',e1,fl,up⟩,hdc⟩=> ?_) fun _ _ z=>z
 ·obtain⟨k1,⟨_,_,k2⟩,k3,k4⟩:=hL
  exact⟨h',rfl,⟨k1,hBe,k2,k3⟩,k4⟩
 subst e1
 refine k (hideAll s.heap (e::frs (X.env::X.outer))) (.ref t) h' ⟨I.os,I.bare,fl,hdc,?_,?_,?_,?_,?_,?_,?_,?_⟩
 ·intro b o eo
  have hbe:b≠e:=fun z=>by rw[z,kY9] at eo;cases eo
  rw[jU2 hbe] at eo
  refine (I.hok b o eo).stay (fun c u hc h=>hideAll_get _ h fun z=> ?_) (fun c q=> ?_) fun c xs q=> ?_
  ·have hce:c≠e:=fun z=>by
    rcases hc with rfl | hc
    ·exact hbe z
    ·rw[z,he] at hc;cases hc
   rcases (List.mem_cons.mp z) with z | z
   ·exact hce z
   have hn:=I.stkFree c (by rw[hs];exact z)
   rcases hc with rfl | hc
   ·rw[eo] at hn;cases hn
   ·rw[hc] at hn;cases hn
  ·rw[jU2 (fun z=>by rw[z,he] at q;cases q)];exact q
  ·rw[jU2 (fun z=>by rw[z,he] at q;cases q)];exact q
 ·intro b o h n f
  exact inB b o (I.base.keep b o h n f (nex b)) (olde b o h) (old b o h) f
 ·intro b o h f
  obtain⟨o',h'⟩:=I.base.there b o h (nex b)
  exact⟨o',inB b o' h' (olde b o h) (old b o h) f⟩
 ·intro b o h f
  obtain⟨sl,e1⟩:=I.base.slot b o h (I.ok.frf b f) f (nex b)
  obtain⟨_,o',ho',hd⟩:=I.funs.mem f
  rw[e1] at ho'
  cases ho'
  obtain⟨sl',e2⟩:=up b _ e1 hd
  exact⟨sl',e2⟩
 ·intro b o h n
  rw[jU2 (olde b o h)]
  exact I.base.free b o h n (nex b)
 ·intro b xs q
  have q2:=I.base.tups b xs q
  rw[jU2 (fun z=>by rw[z,he] at q2;cases q2)];exact q2
 ·intro b o u q
  have q2:=I.base.frzs b o u q
  rw[jU2 (fun z=>by rw[z,he] at q2;cases q2)];exact q2
 ·intro b ps q
  obtain⟨more,q2⟩:=I.base.tbls b ps q
  exact⟨more,by rw[jU2 (fun z=>by rw[z,he] at q2;cases q2)];exact q2⟩
abbrev XK3:=Str->Gp->Prop
abbrev SpX:=List T->Gp->VK3->XK3->Prop
def vmro:List Value:=[.type "ValueError",.type "Exception",.type "BaseException",.type "object"]
structure ExC (K:PySem.W.Frag) (mg:Str->Option Value) (cn:Str):Prop where
 ex:∃C,CN K cn C/\mg cn=some (.ref C)/\excIn K C vmro "ValueError.__new__"=true
variable {K:PySem.W.Frag}
theorem exc_at {bmB:List Value}{newId:String}(q:excIn K C bmB newId=true):
  ∃bm N nm qn bs hdct sn sub ab col dd k0 k1 k2 k3 k5,K.lookup C=some (excClassObj nm qn C N bs bm hdct sn sub ab col dd k0 k1 k2 k3 k5 newId)/\nsOkIn K N=true/\nsIn K N "__init__"=some none/\tailIn K bmB bm=true:=by
 unfold excIn at q
 split at q
 ·rename_i dd cd sl ho
  split at q
  ·rename_i C' bm k0 k1 k2 k3 n k5 hm hs
   (simp only[Bool.and_eq_true,beq_iff_eq,Bool.not_eq_true'] at q)
   obtain⟨⟨⟨⟨⟨rfl,rfl⟩,z⟩,ht⟩,hok⟩,hni⟩:=q
   (obtain⟨nm,bs,mro,ns,qn,hd,sn,sub,ab,col,del⟩:=cd)
   dsimp only at hm z hok hni
   subst hm z
   have e:sl= #[k0,k1,k2,k3,some (.builtin n),k5]:=by
    obtain⟨l⟩:=sl
    simp only at hs
    rw[hs]
   subst e
   exact⟨bm,ns,nm,qn,bs,hd,sn,sub,ab,col,dd,k0,k1,k2,k3,k5,ho,hok,hni,ht⟩
  ·cases q
 ·cases q
theorem kVp {h':Heap}{N:Addr}{m:Str->Option Value}(X:K.In h)(X':K.In h')(e:nsOkIn K N=true)(hn:h.Ns N m):h'.Ns N m:=by
 unfold nsOkIn at e
 split at e
 ·rename_i ho
  obtain⟨o,es,ep,h1,r⟩:=hn
  have:=X _ _ ho
  rw[h1] at this
  cases this
  exact⟨_,es,ep,X' _ _ ho,r⟩
 ·cases e
theorem jZs {bm:List Value}(t:OwnTail h vmro bm):bm.contains (.type "BaseException")=true:=t.hasType (by decide)
def CX (K:PySem.W.Frag)(cn:Str)(C:Addr):Prop:=PySem.W.nsIn K mainGlobals (nmOf cn)=some (some (.ref C))
variable {cn:Str}{D:Addr}
theorem CX.one (h:CX K cn C)(h':CX K cn D):C=D:=by
 unfold CX at h h';rw[h] at h';cases h';rfl
theorem nm_of (h:jKe cn=none):nmOf cn=cn:=by unfold nmOf;rw[h];rfl
theorem cx_of (h:jKe cn=none)(q:CN K cn C):CX K cn C:=by unfold CX;rw[nm_of h];exact q
theorem kYg (h:jKe cn=none):WhyH H (jKe cn) d:=fun y q=>by rw[h] at q;cases q
def dv:Option Addr->Value
 | none=> .none
 | some d=> .ref d
theorem dv_inj:∀ {a b:Option Addr},dv a=dv b->a=b
 | none,none,_=>rfl
 | some _,some _,h=>by cases h;rfl
 | none,some _,h=>by cases h
 | some _,none,h=>by cases h
def CXX (P:Program)(w:World):CXT:=fun outer H s E e s'=>∃a C B a0 H',e= .ref a/\Lies P w outer H s a C B a0 H' s'/\E (dv a0.2) (some C) H'
structure XR (X:Cx) (R:XK3):Prop where
 raise_:∀(pins:List (Addr×Obj)) (σ:L2.St) (H1:Hp) (G1:Gp) (s1 s':Shared) (a C:Addr) (cn:Str) (args:List Value),Inv X pins σ H1 s1->GRel X.K H1 G1->CX X.K cn C->jKe cn=none->Heap.MadeExcOf s1.heap s'.heap a (.ref C) args->s'.os=s1.os->s'.gens=s1.gens->R cn G1->X.xe (.ref a) s'
 pass:∀(pins:List (Addr×Obj)) (σ:L2.St) (H1:Hp) (s1 s':Shared) (a C:Addr) (cn:Str) (B:Heap) (a0:Value×Option Addr) (H':Hp) (G':Gp),Inv X pins σ H1 s1->Lies X.prog X.w X.stack H1 s1 a C B a0 H' s'->GRel X.K H' G'->CX X.K cn C->WhyH H' (jKe cn) a0.2->R cn G'->X.xe (.ref a) s'
 raiseW:∀(pins:List (Addr×Obj)) (σ:L2.St) (H1:Hp) (G1:Gp) (s1:Shared) (e C:Addr) (cn:Str) (dx:Option Addr),Inv X pins σ H1 s1->H1 e=some (.ext (ExO C e dx))->(∀b o,X.s₀.heap.get? b=some o->b∉X.ex->b≠e)->GRel X.K (off e H1) G1->CX X.K cn C->WhyH (off e H1) (jKe cn) dx->R cn G1->X.xe (.ref e) s1
 own:PassesOwn (model X.prog X.w) X.A X.env X.xe
noncomputable def dnX (K:PySem.W.Frag)(n:Nat)(sp:SpX):Sp:=fun vs H Q E=>vs.length=n/\∃xs G,Reps K H xs vs/\GRel K H G/\sp xs G (fun t G'=>∀v H',Ext H H'->GRel K H' G'->Rep K H' t v->Q v H') (fun cn G'=>∀d C H',Ext H H'->GRel K H' G'->CX K cn C->WhyH H' (jKe cn) d->E (dv d) (some C) H')
noncomputable def FnX (P:Program)(w:World)(K:PySem.W.Frag)(mg:Str->Option Value)(base:Heap)(k:Nat)(f:Addr)(fd:FuncData)(ps:List Str)(sp:SpX):Prop:=FnOk P w K mg base (CXX P w) k f fd ps (dnX K ps.length sp)
variable {mg:Str->Option Value}{x:Str}{st:Stmt}{fd:FuncData}{ps:List Str}{sp:SpX}
theorem fnX {base:Heap}{qual:Str}{N:List Str}{k:Nat}(F:Fun K x qual st f fd)(S:FnScope N ps (jJd st))(hbody:∀(cdv:Value) (A:Around) (outer:List Env) (s:Shared) (H:Hp) (E:XK) (R:XK3),Room k (A.deeper (envOfC qual (jJd st) s.heap.objs.size f cdv))->XR (cxOf (CXX P w) P w K mg base N qual (jJd st) f cdv A outer s H E) R->
   ∃t,PSs3 (cxOf (CXX P w) P w K mg base N qual (jJd st) f cdv A outer s H E) (jJx st) t/\∀xs G Q,sp xs G Q R->t {nx:=fun _ G'=>Q .non G',rt:=Q} (jK3 N xs) G):FnX P w K mg base (k+1) f fd ps sp:=by
 obtain⟨oc,od,kV,doc,pm,an,cdv,ct,osl,rfl,lk,hcd⟩:=F.ex
 refine fn_of (sp:=dnX K ps.length sp) lk hcd S (fun vs H Q E h=>h.1) fun A outer s H vs Q E hr hsp=> ?_
 obtain⟨hl,xs,G,rs,hg,hsp⟩:=hsp
 have hXR:XR (cxOf (CXX P w) P w K mg base N qual (jJd st) f cdv A outer s H E) (fun cn G'=>∀d C H',Ext H H'->GRel K H' G'->CX K cn C->WhyH H' (jKe cn) d->E (dv d) (some C) H'):=by
  refine⟨?_,?_,?_,PassesOwn.leaving⟩
  ·intro pins σ H1 G1 s1 s' a C cn args I g1 hc hw hm ho hg' hR
   exact kZj I rfl rfl rfl hm ho hg' fun B a0 h' l=>⟨a,C,B,a0,H1,rfl,l,hR a0.2 C H1 ⟨I.base.tups,I.base.frzs⟩ g1 hc (kYg hw)⟩
  ·intro pins σ H1 s1 s' a C cn B a0 H' G' I l g1 hc hw hR
   refine qKh I rfl rfl rfl l fun h' l'=>⟨a,C,B,a0,H',rfl,l',hR a0.2 C H' ⟨l'.tups,l'.frzs⟩ g1 hc hw⟩
  ·intro pins σ H1 G1 s1 e C cn dx I he hn g1 hc hw hR
   have hn':s.heap.get? e=none:=by
    cases q:s.heap.get? e with
    | none=>rfl
    | some o=>exact absurd rfl (hn e o q List.not_mem_nil)
   exact kVw I rfl rfl rfl he hn' fun B a0 h' l=>⟨e,C,B,(a0,dx),off e H1,rfl,l,hR dx C (off e H1) ⟨l.tups,l.frzs⟩ g1 hc hw⟩
 obtain⟨t,ht,hq⟩:=hbody cdv A outer s H E _ hr hXR
 ·refine⟨fun D σ H1=>D.nx=(fun _ H'=>Q .non H')/\D.rt=Q/\σ=L2.start N vs/\H1=H,?_,rfl,rfl,rfl,rfl⟩
  rintro pins s1 σ1 H1 D I ⟨e1,e2,e3,e4⟩
  subst e3;subst e4
  have I3:Inv3 (cxOf (CXX P w) P w K mg base N qual (jJd st) f cdv A outer s H1 E) pins (jK3 N xs) G H1 s1:=⟨_,I,jZt rs,hg⟩
  refine thn (ht pins s1 _ G H1 _ I3 (hq xs G _ hsp)) fun fl s2 z=> ?_
  cases fl with
  | next=>obtain⟨τ',G',H',e',⟨σ',I',a,b⟩,q⟩:=z;exact⟨σ',H',I',by rw[e1];exact q .non H' e' b rfl⟩
  | brk=>obtain⟨τ',G',H',e',_,q⟩:=z;exact q.elim
  | cont=>obtain⟨τ',G',H',e',_,q⟩:=z;exact q.elim
  | ret u=>obtain⟨x',τ',G',H',e',⟨σ',I',a,b⟩,⟨v,rv,ru⟩,q⟩:=z;exact⟨v,σ',H',I',ru,by rw[e2];exact q v H' e' b rv⟩
def kYc (sp:SpX):Prop:=∀xs G Q Q' R R',(∀t G',Q t G'->Q' t G')->(∀c G',R c G'->R' c G')->sp xs G Q R->sp xs G Q' R'
variable {τ:St3}{R:XK3}{np pos:Pos}
theorem kVa {k:Nat}{H1:Hp}{G1:Gp}{s1:Shared}{xs:List T}{as:List V}{us:List Value}{Q:VK3}(F:FnX X.prog X.w X.K X.mg X.base k f fd ps sp)(hr:Room k X.A)(hb:Binds X.K fd ps [])(mono:kYc sp)(len:∀xs G Q R,sp xs G Q R->xs.length=ps.length)(I1:Inv X pins σ H1 s1)(hs1:SRel X.K H1 σ τ)(hg1:GRel X.K H1 G1)(ras:Reps X.K H1 xs as)(rvs:Vals as us)(q:sp xs G1 Q R)(hE:∀a C cn B a0 H' G' s',Lies X.prog X.w X.stack H1 s1 a C B a0 H' s'->Ext H1 H'->GRel X.K H' G'->CX X.K cn C->WhyH H' (jKe cn) a0.2->R cn G'->E (.ref a) s'):
  wpAny (model X.prog X.w) X.A (call (.ref f) us) (EP3 X pins τ H1 Q) E s1:=by
 have hl:us.length=ps.length:=by rw[<-rvs.length,<-ras.length];exact len _ _ _ _ q
 refine wpAny_call (codeAny_mono (F.run X.A X.stack s1 H1 ⟨us,[]⟩ (us++[]) as (up X.K H1 Q) (fun v c H'=>∃cn C d G',v=dv d/\c=some C/\CX X.K cn C/\WhyH H' (jKe cn) d/\Ext H1 H'/\GRel X.K H' G'/\R cn G') hr I1.env0 (hb s1 us I1.kIn (by rw[List.append_nil];exact hl)) (by rw[List.append_nil];exact rvs) ?_) fun r s' hq=> ?_)
 ·exact⟨by rw[<-ras.length];exact len _ _ _ _ q,xs,G1,ras,hg1,mono _ _ _ _ _ _ (fun t G' hq v H' e g r=>⟨t,G',e,g,r,hq⟩) (fun cn G' hR d C H' e1 g hc hw=>⟨cn,C,d,G',rfl,rfl,hc,hw,e1,g,hR⟩) q⟩
 ·cases r with
  | error e=>
   obtain⟨a,C,B,a0,H',rfl,l,cn,C',d,G',ed,ec,hc,hw,e1,g,hR⟩:=(show CXX X.prog X.w X.stack H1 s1 (fun v c H'=>∃cn C d G',v=dv d/\c=some C/\CX X.K cn C/\WhyH H' (jKe cn) d/\Ext H1 H'/\GRel X.K H' G'/\R cn G') e s' from hq)
   cases ec
   rw[<-dv_inj ed] at hw
   exact hE a C cn B a0 H' G' s' l e1 g hc hw hR
  | ok fl=>
   cases fl with
   | ret u=>exact jQo hs1 (I1.after hq)
   | next=>exact False.elim hq
   | brk=>exact False.elim hq
   | cont=>exact False.elim hq
def jQv (R:XK3)(cn:Str):TS3:=fun _ _ G=>R cn G
theorem kYu {v:Str}{a:Expr}{cpos:Pos}(hx:XR X R)(hC:ExC X.K X.mg cn)(hc:X.calm=true)(ha:PA3 X [a] (jJa (tC (.str v)) tNil))(hg:Gl X cn:=by rfl)(hdb:(cn == ("__debug__":Str))=false:=by decide)(he:starEach [a] X.env=[(false,eval a X.env)]:=by rfl)(hw:jKe cn=none:=by decide):
  PS3 X (.Raise (some (.Call (.Name cn np) [a] [] cpos)) none pos) (jQv R cn):=by
 intro pins s τ G H D I h
 obtain⟨C,hcn,hmg,hin⟩:=hC.ex
 obtain⟨σ,I0,hs,hgr⟩:=id I
 obtain⟨bm,N,nm,qn,bs,hdct,sn,sub,ab,col,dd,k0,k1,k2,k3,k5,hC0,hok,hni,ht⟩:=exc_at hin
 refine wpAny_Raise_call_subU (C:=C) (N:=N) (nm:=nm) (q:=qn) (bs:=bs) (bm:=bm) (hdct:=hdct) (sn:=sn) (sub:=sub) (ab:=ab) (col:=col) (dd:=dd) (k0:=k0) (k1:=k1) (k2:=k2) (k3:=k3) (k5:=k5) (mN:=s.heap.nsMap N) (bmB:=vmro) PySem.F.excBase_ValueError (by decide) PySem.F.excBase_ValueError (jZs (tail_of_in I0.kIn ht)) (I0.ok.hd hc) (by rw[he];rfl) (nsMap_none_of_in I0.kIn hok hni) ?_
 refine jUn I0 hg hmg ⟨rfl,?_⟩ hdb
 rw[show backTo cpos (starEach [a] X.env)=[(false,eval a X.env)] by rw[he];rfl]
 refine Calls.evalArgs_plain ?_
 have:=ha cpos pins s τ G H (fun ts G'=>ts.length=1/\R cn G') I ⟨rfl,h⟩
 rw[show backTo cpos (starEach [a] X.env)=[(false,eval a X.env)] by rw[he];rfl] at this
 refine thn this fun us s1 w_=>w_.el fun xs G1 H1 e1 i_ r_ q=>i_.el fun σ1 I1 hs1 hg1=>r_.el fun as ras rvs=> ?_
 have hl:us.length=1:=by rw[<-rvs.length,<-ras.length];exact q.1
 refine⟨rfl,by rw[hl];decide,I1.kIn _ _ hC0,kVp I0.kIn I1.kIn hok (.of_isNs (isNs_of_in I0.kIn hok)),tail_of_in I1.kIn ht,fun h' b hm=> ?_⟩
 exact hx.raise_ pins σ1 H1 G1 s1 {s1 with heap:=h'} b C cn us I1 hg1 (cx_of hw hcn) hw hm rfl rfl q.2
abbrev RX3:=Str->St3->Gp->Prop
abbrev TEx:=St3->Gp->VK3->RX3->Prop
abbrev TSx:=Ends3->RX3->St3->Gp->Prop
noncomputable def XP (X:Cx)(pins:List (Addr×Obj))(H:Hp)(R:RX3)(e:Value)(s':Shared):Prop:=∃a C cn B a0 τ' G1 H1 s1 G' H',e= .ref a/\Ext H H1/\Inv3 X pins τ' G1 H1 s1/\Lies X.prog X.w X.stack H1 s1 a C B a0 H' s'/\Ext H1 H'/\GRel X.K H' G'/\CX X.K cn C/\WhyH H' (jKe cn) a0.2/\R cn τ' G'
noncomputable def PEx (X:Cx)(e:Expr)(t:TEx):Prop:=∀(pins:List (Addr×Obj)) (s:Shared) (τ:St3) (G:Gp) (H:Hp) (Q:VK3) (R:RX3),Inv3 X pins τ G H s->t τ G Q R->wpAny (model X.prog X.w) X.A (eval e X.env) (EP3 X pins τ H Q) (XP X pins H R) s
noncomputable def PSx (X:Cx)(st:Stmt)(t:TSx):Prop:=∀(pins:List (Addr×Obj)) (s:Shared) (τ:St3) (G:Gp) (H:Hp) (D:Ends3) (R:RX3),Inv3 X pins τ G H s->t D R τ G->wpAny (model X.prog X.w) X.A (exec st X.env) (SP3 X pins H D) (XP X pins H R) s
noncomputable def PSsx (X:Cx)(st:List Stmt)(t:TSx):Prop:=∀(pins:List (Addr×Obj)) (s:Shared) (τ:St3) (G:Gp) (H:Hp) (D:Ends3) (R:RX3),Inv3 X pins τ G H s->t D R τ G->wpAny (model X.prog X.w) X.A (execs st X.env) (SP3 X pins H D) (XP X pins H R) s
def Calm (X:Cx):Prop:=∀e s,¬ X.xe e s
theorem Calm.any (h:Calm X){α:Type}{m:Sem α}{Q:α->Shared->Prop}(w:wpAny (model X.prog X.w) X.A m Q X.xe s):wpAny (model X.prog X.w) X.A m Q E s:=
 wpAny_mono w (fun _ _ z=>z) fun e s z=>absurd z (h e s)
def kK5 (te:TEx):TSx:=fun D R τ G=>te τ G (fun _ G1=>D.nx τ G1) R
theorem qJu {e:Expr}{te:TEx}(he:PEx X e te)(hs:swapsWith e none pos.line X.env=pure false:=by rfl):PSx X (.Expr e pos) (kK5 te):=by
 intro pins s τ G H D R I h
 obtain⟨σ,I0,hs0,hg0⟩:=id I
 exact wpAny_Expr_any (thn (he pins s τ G H _ R I h) fun v s1 w_=>w_.el fun x G1 H1 e1 I1 r1 q1=>⟨τ,G1,H1,e1,I1,q1⟩) I0.quiet hs
theorem qJt {t:TSx}(h1:PSx X st t):PSsx X [st] t:=by
 intro pins s τ G H D R I h
 refine wpAny_execs_cons (thn (h1 pins s τ G H D R I h) fun f s1 q=> ?_)
 cases f with
 | next=>exact wpAny_execs_nil q
 | ret v=>exact q
 | brk=>exact q
 | cont=>exact q
variable {G:Gp}
abbrev hX (X:Cx)(a:Addr):Cx:={X with A:=X.A.mark (some (.ref a)),calm:=false}
theorem Inv.mark (I:Inv X pins σ H s)(a:Addr):Inv (hX X a) pins σ H s:=
 ⟨⟨I.ok.mod,I.ok.kind,I.ok.glob,I.ok.blt,I.ok.above,I.ok.inj,I.ok.has,I.ok.cab,fun z=>Bool.noConfusion z,fun z=>Bool.noConfusion z,I.ok.frames,I.ok.stk,I.ok.exf,I.ok.bs,I.ok.bsz,I.ok.noex,I.ok.exfs,I.ok.funs,I.ok.frf⟩,I.os,I.bare,I.base,I.loc,I.cell,I.free,I.freeC,I.pin,I.hok,I.len⟩
theorem Inv.unmark (I:Inv (hX X a) pins σ H s)(ok:X.Ok):Inv X pins σ H s:=⟨ok,I.os,I.bare,I.base,I.loc,I.cell,I.free,I.freeC,I.pin,I.hok,I.len⟩
theorem Inv3.mark (I:Inv3 X pins τ G H s)(a:Addr):Inv3 (hX X a) pins τ G H s:=let ⟨σ,I,x,y⟩:=I;⟨σ,Inv.mark I a,x,y⟩
theorem Inv3.unmark (I:Inv3 (hX X a) pins τ G H s)(ok:X.Ok):Inv3 X pins τ G H s:=let ⟨σ,I,x,y⟩:=I;⟨σ,Inv.unmark I ok,x,y⟩
theorem kYj {v:V}(I:Inv X pins σ H s)(hN:X.N.Nodup)(hi:X.N[i]? =some x)(hk:X.env.scope.names.lookup x=some .local)(hv:σ[i]? =some (some v))(h:∀s',Inv X pins (σ.set i none) H s'->Q () s'):wpAny M A (unbindName X.env x) Q E s:=by
 obtain⟨m,hn,hl⟩:=id I.loc
 have hcls:(X.env.scope.kind == .class||(X.env.scope.kind == .module&&X.env.locals != X.env.globals))=false:=by rw[I.ok.kind];rfl
 have cne:=I.cne
 have hval:∃u,m x=some u:=by
  obtain⟨u,_,q⟩:=hl i x v hi hv (.inl hk)
  rcases q with ⟨_,e⟩ | ⟨k,_⟩
  ·exact⟨u,e⟩
  ·rcases k with k | k<;>(rw[show X.env.kindOf x=some .local from hk] at k;cases k)
 obtain⟨u0,hu0⟩:=hval
 obtain⟨oL,_,_,hoL,_⟩:=id hn
 refine wpAny_unbindName_local hk hn hu0 hcls fun h' u hn' hs=> ?_
 refine h _ ⟨I.ok,I.os,I.bare,⟨fun b o e n hb hx=> ?_,fun b o e n hb hx=> ?_,I.base.free,fun b o e hx=> ?_,I.base.tups,I.base.frzs,I.base.tbls⟩,⟨_,hn',fun j y v' e1 e2 e3=> ?_⟩,fun y c e=> ?_,I.free,I.freeC,fun p hp=> ?_,fun b ob e=> ?_,by simpa using I.len⟩
 ·exact (hs.2 b (Nat.ne_of_lt (Nat.lt_of_lt_of_le (Heap.lt_size e) I.ok.above))).trans (I.base.keep b o e n hb hx)
 ·obtain⟨sl,e1⟩:=I.base.slot b o e n hb hx
  exact⟨sl,(hs.2 b (Nat.ne_of_lt (Nat.lt_of_lt_of_le (Heap.lt_size e) I.ok.above))).trans e1⟩
 ·obtain⟨o',e1⟩:=I.base.there b o e hx
  exact⟨o',(hs.2 b (Nat.ne_of_lt (Nat.lt_of_lt_of_le (Heap.lt_size e) I.ok.above))).trans e1⟩
 ·by_cases hj:j=i
  ·subst hj
   by_cases hlt:j<σ.length
   ·rw[List.getElem?_set_self hlt] at e2;cases e2
   ·rw[List.getElem?_eq_none (by simpa using Nat.not_lt.mp hlt)] at e2;cases e2
  ·rw[List.getElem?_set_ne (Ne.symm hj)] at e2
   obtain⟨u',r',q⟩:=hl j y v' e1 e2 e3
   refine⟨u',r',?_⟩
   rcases q with ⟨k,e⟩ | ⟨k,c,e,z⟩
   ·refine .inl ⟨k,?_⟩
    have:y≠x:=fun e=>hj (jZb hN e1 (e▸hi))
    simp[this,e]
   ·exact .inr ⟨k,c,e,z.sameBut hs (cne y c e)⟩
 ·obtain⟨w',z⟩:=I.cell y c e
  exact⟨w',z.sameBut hs (cne y c e)⟩
 ·obtain⟨e,n,ne,nf,d⟩:=I.pin p hp
  exact⟨(hs.2 p.1 ne).trans e,n,ne,nf,d⟩
 ·refine (I.hok b ob e).stay (fun c w' hc q=>(hs.2 c ?_).trans q) (fun _ q=>q) fun _ _ q=>q
  rintro rfl
  rcases hc with rfl | hc
  ·rw[I.free] at e;cases e
  ·rw[I.free] at hc;cases hc
theorem kVq (I:Inv X pins σ H s)(hN:X.N.Nodup)(hi:X.N[i]? =some x)(hk:X.env.scope.names.lookup x=some .local)(h:∀s',Inv X pins (σ.set i none) H s'->Q () s'):wpAny M A (do bindName X.env x .none;unbindBehindTheSuite X.env x pos) Q E s:=by
 have hil:i<σ.length:=by rw[I.len];exact (List.getElem?_eq_some_iff.mp hi).1
 refine wpAny_bind (wpAny_bindName (jUt (v:= .non) I hN hi (.inl hk) rfl (fun s1 I1=> ?_) (.inr hk)))
 unfold unbindBehindTheSuite
 refine wpAny_onRaise (kYj (v:= .non) I1 hN hi hk (List.getElem?_set_self hil) fun s2 I2=>h s2 ?_)
 rw[List.set_set] at I2
 exact I2
theorem SRel.unset (h:SRel K H σ τ)(i:Nat):SRel K H (σ.set i none) (τ.set i none):=by
 refine⟨by simp[h.1],fun j u q=> ?_⟩
 by_cases hj:i=j
 ·subst hj
  by_cases hl:i<τ.length
  ·rw[List.getElem?_set_self hl] at q;cases q
  ·rw[List.getElem?_eq_none (by simpa using Nat.not_lt.mp hl)] at q;cases q
 ·rw[List.getElem?_set_ne hj] at q ⊢
  exact h.2 j u q
theorem Lies.new (I:Inv X pins σ H s)(l:Lies X.prog X.w X.stack H s a C B a0 H' s'):s.heap.get? a=none:=by
 cases e:s.heap.get? a with
 | none=>rfl
 | some o=>
  exfalso
  by_cases f:a∈frs X.stack
  ·obtain⟨_,o',ho',hd⟩:=I.stack.mem f
   rw[e] at ho';cases ho'
   obtain⟨sl,e2⟩:=l.slot a o e f
   obtain⟨oe,vs,T,oT,ts,he,hc,hdd,_⟩:=l.fly.2.2.2
   rw[e2] at he;cases he
   exact hd vs hdd
  ·obtain⟨o',e2⟩:=l.there a o e f
   rw[l.fly.2.1] at e2;cases e2
theorem Lies.again (I:Inv X pins σ H s)(l:Lies X.prog X.w X.stack H s a C B a0 H' s')(k:∀h',Lies X.prog X.w X.stack H s a C B a0 H' {s' with heap:=h'}->Q () {s' with heap:=h'}):wpAny (model X.prog X.w) A (setFlight (.ref a) none) Q E s':=by
 refine wpAny_mono (dk_setFlight.any (lands_againW (Q:=fun _ s2=>∃h2:Heap,s2={s' with heap:=h2}/\Heap.FlyingW B X.stack a (.ref C) a0.1 h2/\s'.heap.UpToSlots h2) l.fly fun h2 fl up=>⟨h2,rfl,fl,up⟩) l.dct) (fun _ s2 ⟨⟨h2,e2,fl,up⟩,hdc⟩=> ?_) fun _ _ z=>z
 subst e2
 refine k h2 ⟨l.os,l.bare,fl,hdc,l.hok,l.keep,l.there,fun b o h f=> ?_,l.free,l.tups,l.frzs,l.tbls⟩
 obtain⟨sl,e⟩:=l.slot b o h f
 obtain⟨_,o',ho',hd'⟩:=I.stack.mem f
 rw[h] at ho'
 cases ho'
 obtain⟨sl2,e2⟩:=up b _ e hd'
 exact⟨sl2,e2⟩
theorem kZk (I:Inv X pins σ H s)(l:Lies X.prog X.w X.stack H s a C B a0 H' s'):∃ob,ob.cls= .ref C/\ob.dict=a0.2/\PySem.W.notCls ob=true/\Inv X pins σ (upd H' a (.frz ob (.ext fun h=>h.get? a=some ob))) s':=by
 obtain⟨ob,hob,hcl⟩:=l.fly.there
 have hdc:ob.dict=a0.2:=by
  obtain⟨ob',h',q⟩:=l.dct
  rw[hob] at h';cases h';exact q
 have hnc:PySem.W.notCls ob=true:=by
  obtain⟨oe,vs,h',_,hda,_⟩:=l.fly.first
  rw[hob] at h';cases h'
  unfold PySem.W.notCls
  rw[hda]
 have na:=l.na
 have new:=Lies.new I l
 have u:=l.un
 have hok:=l.hok.kept fun b u e=>l.fly.1 b u e
 refine⟨ob,hcl,hdc,hnc,I.call' (ch:=[]) l.os ⟨u.keep,u.slot,fun b o h n x=> ?_,u.there,fun b xs h=> ?_,fun b o w h=> ?_,fun b ps h=> ?_⟩ (fun b o e=> ?_) l.bare fun b z=>absurd z List.not_mem_nil⟩
 ·rw[jJk (fun z=>by rw[z,new] at h;cases h)];exact u.free b o h n x
 ·rw[jJk (fun z=>by have:=u.tups b xs h;rw[z,na] at this;cases this)];exact u.tups b xs h
 ·rw[jJk (fun z=>by have:=u.frzs b o w h;rw[z,na] at this;cases this)];exact u.frzs b o w h
 ·obtain⟨m,e⟩:=u.tbls b ps h
  exact⟨m,by rw[jJk (fun z=>by rw[z,na] at e;cases e)];exact e⟩
 ·by_cases hb:b=a
  ·subst hb
   rw[jJn] at e;cases e
   exact⟨hob,hob,⟨ob,hob⟩,fun h1 h2 p k=>k ob p⟩
  ·rw[jJk hb] at e
   refine (hok b o e).stay (fun c w' _ q=>q) (fun c q=> ?_) fun c xs q=> ?_
   ·rw[jJk (fun z=>by rw[z,na] at q;cases q)];exact q
   ·rw[jJk (fun z=>by rw[z,na] at q;cases q)];exact q
structure ExSub (K:PySem.W.Frag) (mg:Str->Option Value) (cn c:Str) (b:Bool):Prop where
 ex:∃C D,CX K cn C/\mg c=some (.ref D)/\exmOne K (.ref C) (.ref D)=some b
variable {c:Str}{cs:List Str}
noncomputable def tTry (i:Nat)(cs:List Str)(tb:TSx)(th:TS3):TS3:=fun D τ G=>tb D (fun cn τ' G'=>cn∈cs/\∀a,G' a=none->th {nx:=fun τ2 G2=>D.nx (τ2.set i none) G2,rt:=fun _ _=>False} (τ'.set i (some (.ref a))) (gup G' a (.exc cn))) τ G
theorem s_try {body:List Stmt}{b0:Stmt}{bs:List Stmt}{n:Str}{tb:TSx}{th:TS3}{hpos:Pos}(hn:Calm X)(hN:X.N.Nodup)(hb:PSsx X body tb)(hh:∀a,PSs3 (hX X a) (b0::bs) th)(hcs:∀cn,cn∈cs->ExSub X.K X.mg cn c true)(hst:X.stack=X.env::X.outer:=by rfl)(hfr:X.env.frame=some X.env.locals:=by rfl)(hi:X.N[i]? =some n:=by rfl)(hk:X.env.scope.names.lookup n=some .local:=by rfl)(hg:Gl X c:=by rfl)(hdb:(c == ("__debug__":Str))=false:=by decide):
  PS3 X (.Try body [.ExceptHandler (some (.Name c np)) (some n) (b0::bs) hpos] [] [] pos) (tTry i cs tb th):=by
 intro pins s τ G H D I h
 refine wpAny_Try_except (wpAny_mono (hb pins s τ G H D _ I h) (fun f s1 q=> ?_) fun e s1 q=> ?_)
 ·cases f with
  | next=>exact wpAny_execs_nil q
  | ret v=>exact q
  | brk=>exact q
  | cont=>exact q
 obtain⟨a,C,cn,B,a0,τ',G1,H1,s2,G',H',rfl,e1,I1,l,e2,g,hc,hw,hin,hR⟩:=q
 obtain⟨σ,I2,hs2,hg2⟩:=I1
 obtain⟨C',Dc,hC',hmg,hx⟩:=(hcs cn hin).ex
 cases hC'.one hc
 refine kVx I2 l hst hfr fun h3 I3 l3=> ?_
 refine wpAny_handleBy_cons (codeAny_handlers_test (jUn (X:=hX X a) (Inv.mark I3 a) hg hmg ?_ hdb)) (by intro q;cases q)
 obtain⟨ob,hob,hcl⟩:=l3.fly.there
 have LT:Looks (model X.prog X.w) h3 (typeOf (.ref a)) (.ref C):=hcl▸(Looks.ld (part:=none) hob).andThen .now
 refine (exm_one (K:=X.K) I3.kIn LT hx).at ?_
 (refine codeAny_handlers_suite_as ?_)
 refine Lies.again (X:=X) I2 l3 fun h4 l4=> ?_
 obtain⟨ob4,hcl4,hd4,hn4,I4⟩:=kZk I2 l4
 have ea:Ext H' (upd H' a (.frz ob4 (.ext fun h=>h.get? a=some ob4))):= .upd (.none l4.na)
 refine jUt (v:= .ref a) I4 hN hi (.inl hk) rfl (fun s5 I5=> ?_) (.inr hk)
 have hs5:SRel X.K (upd H' a (.frz ob4 (.ext fun h=>h.get? a=some ob4))) (σ.set i (some (.ref a))) (τ'.set i (some (.ref a))):=((hs2.mono e2).mono ea).set i rfl
 have ga:G' a=none:=g.fresh l4.na
 have hg5:GRel X.K (upd H' a (.frz ob4 (.ext fun h=>h.get? a=some ob4))) (gup G' a (.exc cn)):=g.upd (.none l4.na) ⟨ob4,C,_,jJn,hcl4,hc,hn4,by rw[hd4];exact hw.mono ea⟩
 have:=hh a pins s5 _ _ _ _ (Inv3.mark ⟨_,I5,hs5,hg5⟩ a) (hR a ga)
 refine wpAny_mono this (fun f s6 q=> ?_) fun e s6 q=>absurd q (hn e s6)
 cases f with
 | next=>
  obtain⟨τ6,G6,H6,e6,I6,q⟩:=q
  obtain⟨σ6,I6,hs6,hg6⟩:=Inv3.unmark I6 I2.ok
  exact kVq I6 hN hi hk fun s7 I7=>⟨_,G6,H6,((e1.trans e2).trans ea).trans e6,⟨_,I7,hs6.unset i,hg6⟩,q⟩
 | ret v=>obtain⟨_,_,_,_,_,_,_,q⟩:=q;exact q.elim
 | brk=>obtain⟨_,_,_,_,_,q⟩:=q;exact q.elim
 | cont=>obtain⟨_,_,_,_,_,q⟩:=q;exact q.elim
structure ExK (K:PySem.W.Frag) (D:Addr):Prop where
 ga:findIn K (.ref D) "__getattribute__"=some (some (.builtin "BaseException.__getattribute__"))
 gt:findIn K (.ref D) "__getattr__"=some none
 cl:findIn K (.ref D) "__class__"=some (some (.builtin "object.__class__"))
 be:mroIn K D (.type "BaseException")=some true
 ob:mroIn K D (.type "object")=some true
 is:(clsIn K D).isSome=true
section
variable {prog:Program}{x:Addr}{ox:Obj}
open PySem.Builtin PySem.Builtin.ObjectAttr PySem.Builtin.Getset_descriptor in
theorem kUn {tp:Value}{R:Result->Shared->Prop}(X:K.In s.heap)(L0:Looks (model prog w) s.heap (typeOf (.ref x)) (.ref C))(hm:mroIn K C (.type "object")=some true)(h:R (.ok (.ret (.ref C))) s):codeAny (model prog w) A (.call (.builtin "getset_descriptor.__get__") ⟨[.builtin "object.__class__",.ref x,tp],[]⟩) R s:=by
 (obtain⟨hh,g,dr,t,os⟩:=s)
 (have L1:=looks_mroIn (M:=model prog w) X hm)
 (refine codeAny_call_builtin KF.slot_gs.plain KF.entry_gs (KF.slot_gs.check _ _ _ _ _ _ _ _ KF.type_class (KF.args_gs _ _ _) ?_))
 (unfold Builtin.«getset_descriptor.__get__» descrGet)
 rw[dga_obj]
 refine wpAny_bind (wpAny_pure ?_)
 (unfold descrGetter descrCheckInstance descrNameAndClass isInstance)
 simp only[KF.owner_class]
 repeat lk
 (refine⟨Code.quiet_builtin _ (by decide +kernel),codeAny_builtin KF.entry_class ?_⟩)
 (unfold Builtin.«object.__class__» shownTypeOf)
 repeat lk
 exact h
theorem kXi {Q:Option Value->Shared->Prop}(X:K.In s.heap)(L0:Looks (model prog w) s.heap (typeOf (.ref x)) (.ref D))(e:ExK K D)(h:Q (some (.ref D)) {s with toks:=s.toks+1}):wpAny (model prog w) A (getAttr? (.ref x) "__class__") Q E s:=by
 obtain⟨hh,g,d,t,os⟩:=s
 have L1:=looks_findIn (M:=model prog w) X e.ga
 have L2:=looks_findIn (M:=model prog w) X e.cl
 have L3:=looks_findIn (M:=model prog w) X e.gt
 have L4:=looks_mroIn (M:=model prog w) X e.be
 (have hx2:(Value.builtin "BaseException.__getattribute__" == Value.builtin "object.__getattribute__")=false:=by decide +kernel)
 have hx1:(onTheHeap (Value.ref D)&&Value.builtin "BaseException.__getattribute__" == Value.builtin "object.__getattribute__")=false:=by rw[hx2];rfl
 have f3:=PySem.F.attrBase_ValueError.ga.bind (.ref x)
 (unfold getAttr? getAttrBy? getAttrBy)
 (refine wpAny_bind (wpAny_mkText (wpAny_bind (wpAny_attempt (wpAny_holding (wpAny_bind (L0.at (wpAny_bind (L1.at ?_)))))))))
 dsimp only
 rw[hx1]
 (simp only[Bool.false_eq_true,if_false])
 unfold getAttrByItsOwn
 have X':K.In hh:=X
 have L0:Looks (model prog w) hh (typeOf (Value.ref x)) (Value.ref D):=L0
 have L1:Looks (model prog w) hh (typeLookup (Value.ref D) (Str.ofString "__getattribute__")) (some (Value.builtin "BaseException.__getattribute__")):=L1
 have L2:Looks (model prog w) hh (typeLookup (Value.ref D) (Str.ofString "__class__")) (some (Value.builtin "object.__class__")):=L2
 have L3:Looks (model prog w) hh (typeLookup (Value.ref D) (Str.ofString "__getattr__")) none:=L3
 have L4:Looks (model prog w) hh (isSubtype (Value.ref D) (Value.type "BaseException")) true:=L4
 have key:∀(A:Around) (R:Result->Shared->Prop),R (.ok (.ret (.ref D))) ⟨hh,g,d,t+1,os⟩->codeAny (model prog w) A (.call (.builtin "BaseException.__getattribute__") ⟨[.ref x,.str (Str.ofString "__class__") t],[]⟩) R ⟨hh,g,d,t+1,os⟩:=by
  intro A R hR
  refine codeAny_call_builtin PySem.F.attrBase_ValueError.ga.plain PySem.F.entry_bexc_ga ?_
  (have hk:builtinKind "BaseException.__getattribute__"=some .slot:=by decide +kernel)
  (have hsplit:splitId "BaseException.__getattribute__"=some ("BaseException","__getattribute__"):=by decide +kernel)
  have ha:=PySem.F.args_bexc_ga (.ref x) (.str (Str.ofString "__class__") t)
  (simp only[checkBuiltinCall,hk,hsplit])
  refine wpAny_bind (wpAny_bind (L0.at (L4.at ?_)))
  rw[if_neg (by decide)]
  have hT5:(⟨hh,g,d,t+1,os⟩:Shared).TypeIs (.builtin "object.__class__") "getset_descriptor":=PySem.F.typeOf_object_class
  have f5:=PySem.F.typeOf_object_class
  have f6:=PySem.F.slot_gs_get.lookup
  have f7:=PySem.F.slot_gs_set.lookup
  repeat (any_goals (first | assumption | with_reducible refine L0.at ?_ | with_reducible refine L2.at ?_ | wp_step))
  refine kUn (s:=⟨hh,g,d,t+1,os⟩) X' L0 e.ob ?_
  (repeat (any_goals (first | assumption | wp_step)))
 unfold hookBefore
 rw[if_pos (show onTheHeap (Value.ref D)=true from rfl)]
 refine wpAny_bind (L3.at ?_)
 (refine wpAny_bind (wpAny_attempt (wpAny_holding ?_)))
 unfold callGetattribute
 rw[if_neg (by decide)]
 unfold boundAndCalled
 rw[f3]
 refine wpAny_bind (wpAny_pure ?_)
 refine (show wpAny _ _ (call (Value.builtin "BaseException.__getattribute__") [Value.ref x,Value.str (Str.ofString "__class__") t]) _ _ _ from wpAny_call (key _ _ ?_))
 (exact wpAny_pure (wpAny_pure h))
def ExAt (x D:Addr)(h:Heap):Prop:=∃ob,h.get? x=some ob/\ob.cls= .ref D
theorem ExAt.ty (p:ExAt x D h):Looks M h (typeOf (.ref x)) (.ref D):=by
 obtain⟨ob,h1,h2⟩:=p
 exact h2▸(Looks.ld (part:=none) h1).andThen .now
theorem kQh (e:ExK K D):KitX K (.ref x) (.ref D) (ExAt x D) where
 ty:=fun _ _ _ p=>p.ty
 it:=fun _ _ X _=>by
  obtain⟨cd,hc⟩:=Option.isSome_iff_exists.mp e.is
  unfold clsIn at hc
  split at hc
  ·rename_i ho
   intro A' Q' E' s' k q
   unfold isType loadHead
   (exact wpAny_bind (wpAny_loadPart (k _ _ (X _ _ ho)) (wpAny_pure q)))
  ·cases hc
 ne:=fun h0 tp d0 is0 n0 l0 X htp=>by
  obtain⟨cd,hc⟩:=Option.isSome_iff_exists.mp e.is
  (refine Bool.eq_false_iff.mpr fun q=> ?_)
  have z:D=tp:=Value.ref.inj (beq_iff_eq.mp q)
  subst z
  unfold clsIn at hc
  split at hc
  ·rename_i ho
   (have z:=(X _ _ ho).symm.trans htp)
   cases z
  ·cases hc
 ca:=fun X p k=>kXi X p.ty e k
end
def ClsV (mg:Str->Option Value)(c:Str)(v:Value):Prop:=mg c=some v\/(mg c=none/\bootBuiltins c=some v)
structure IsX (K:PySem.W.Frag) (mg:Str->Option Value) (cs:List Str) (cn:Str) (b:Bool):Prop where
 ex:∃D vs,CX K cn D/\ExK K D/\Paired (fun c v=>ClsV mg c v) cs vs/\kitAny K (.ref D) vs=some b
theorem kUh {t c:Value}(h:kitAny K t [c]=some b):kitOne K t c=some b:=by
 unfold kitAny at h
 split at h
 ·rename_i e;cases h;exact e
 ·rename_i e;rw[e];exact h
 ·cases h
def clsT:Value->T
 | .ref C=> .ref C
 | .type n=> .ty n
 | _=> .non
variable {pc p:Pos}{rel:List (Str×Bool)}{tx:TE3}{u:Value}{es:List Expr}
def jVb (rel:List (Str×Bool))(tx:TE3):TE3:=fun τ G Q=>tx τ G fun x G1=>∃a cn b,x= .ref a/\G1 a=some (.exc cn)/\(cn,b)∈rel/\Q (.bl b) G1
theorem qJj (I:Inv3 X pins τ G H s)(h:G a=some (.exc cn))(hD:CX X.K cn D):ExAt a D s.heap:=by
 obtain⟨σ,I0,_,hg⟩:=I
 obtain⟨ob,C,u,h1,h2,h3,_⟩:=(show ∃ob C u,H a=some (.frz ob u)/\ob.cls= .ref C/\PySem.W.nsIn X.K mainGlobals (nmOf cn)=some (some (.ref C))/\PySem.W.notCls ob=true/\WhyH H (jKe cn) ob.dict from hg a _ h)
 cases CX.one hD h3
 exact⟨ob,(I0.hok a _ h1).1,h2⟩
theorem e_nm (hv:ClsV X.mg c v)(hc:∃C,v= .ref C\/∃n,v= .type n)(hg:Gl X c)(hn:c≠"__name__")(hdb:(c == ("__debug__":Str))=false):PE3 X (.Name c pc) (tC (clsT v)):=by
 intro pins s τ G H Q I h
 obtain⟨σ,I0,_,_⟩:=id I
 have e:EP3 X pins τ H Q v s:=by
  obtain⟨C,rfl | ⟨n,rfl⟩⟩:=hc
  ·exact⟨.ref C,G,H,.refl H,I,⟨.ref C,rfl,rfl⟩,h⟩
  ·exact⟨.ty n,G,H,.refl H,I,⟨.ty n,rfl,rfl⟩,h⟩
 rcases hv with hv | ⟨h1,h2⟩
 ·exact jUn I0 hg hv e hdb
 ·exact jUf I0 hg h1 h2 e hn hdb
theorem kQr {x:Expr}(hrel:∀cn b,(cn,b)∈rel->IsX X.K X.mg [c] cn b)(hcl:∃v,ClsV X.mg c v/\∃C,v= .ref C\/∃n,v= .type n)(hx:PE3 X x tx)(hm:X.mg "isinstance"=none)(hg:Gl X "isinstance":=by rfl)(hgc:Gl X c:=by rfl)(hn:c≠"__name__":=by decide)(hdb:(c == ("__debug__":Str))=false:=by decide)(he:starEach [x,.Name c pc] X.env=(false,eval x X.env)::starEach [.Name c pc] X.env:=by rfl)(he2:starEach [.Name c pc] X.env=[(false,eval (.Name c pc) X.env)]:=by rfl)(hpl:(backTo pos (starEach [.Name c pc] X.env)).any (·.1)=false:=by rfl):
  PE3 X (.Call (.Name "isinstance" p) [x,.Name c pc] [] pos) (jVb rel tx):=by
 obtain⟨v,hv,hvc⟩:=hcl
 intro pins s τ G H Q I h
 obtain⟨σ,I0,_,_⟩:=id I
 refine wpAny_Call_Name_kw (jUf I0 hg hm rfl ?_ (by decide) (by decide))
 refine PyProof.Rows.callWith_builtin1 ?_ he hpl
 rw[he,he2]
 refine Calls.spliced_cons (thn (hx pins s τ G H _ I h) fun u s1 w_=>w_.el fun y G1 H1 e1 I1 r1 q1=>Calls.spliced_cons (thn (e_nm hv hvc hgc hn hdb pins s1 τ G1 H1 (fun t G2=>t=clsT v/\G2=G1) I1 ⟨rfl,rfl⟩) fun u2 s2 w2=>Calls.spliced_nil ?_))
 obtain⟨t2,G2,H2,e2,I2,r2,rfl,rfl⟩:=w2
 obtain⟨a,cn,b,rfl,hG,hin,q⟩:=q1
 obtain⟨D,vs,hD,hk,hp,hka⟩:=(hrel cn b hin).ex
 obtain⟨v1,z1,z2⟩:=r1
 cases z1;cases z2
 have hu2:u2=v:=by
  obtain⟨v2,y1,y2⟩:=r2
  obtain⟨C,rfl | ⟨n,rfl⟩⟩:=hvc
  ·cases y1;cases y2;rfl
  ·cases y1;cases y2;rfl
 subst hu2
 cases hp with
 | @cons _ v' _ _ hc hr=>
 cases hr
 have:v'=u2:=by
  rcases hc with h1 | ⟨h1,h2⟩<;>rcases hv with h3 | ⟨h3,h4⟩
  ·rw[h1] at h3;exact Option.some.inj h3
  ·rw[h1] at h3;cases h3
  ·rw[h1] at h3;cases h3
  ·rw[h2] at h4;exact Option.some.inj h4
 subst this
 obtain⟨σ2,J2,_,_⟩:=id I2
 exact kia_one (kQh hk) J2.kIn (qJj I2 hG hD) (kUh hka) (by intro q;cases q) fun tk=>⟨.bl b,G2,H2,e1.trans e2,I2.tok tk,⟨.bl b,rfl,rfl⟩,q⟩
def Cl1 (v:Value):Prop:=∃C,v= .ref C\/∃n,v= .type n
theorem cl_eq (hv:Cl1 v)(r:RU K H (clsT v) u):u=v:=by
 obtain⟨w,y1,y2⟩:=r
 obtain⟨C,rfl | ⟨n,rfl⟩⟩:=hv
 ·cases y1;cases y2;rfl
 ·cases y1;cases y2;rfl
theorem kZx (hc:ClsV mg c v)(hv:ClsV mg c u):v=u:=by
 rcases hc with h1 | ⟨h1,h2⟩<;>rcases hv with h3 | ⟨h3,h4⟩
 ·rw[h1] at h3;exact Option.some.inj h3
 ·rw[h1] at h3;cases h3
 ·rw[h1] at h3;cases h3
 ·rw[h2] at h4;exact Option.some.inj h4
inductive NmL (X:Cx):List Str->List Expr->Prop
 | nil:NmL X [] []
 | cons {c:Str} {pc:Pos} {cs:List Str} {es:List Expr} (hv:∃v,ClsV X.mg c v/\Cl1 v) (h:NmL X cs es) (hg:Gl X c:=by rfl) (hn:c≠"__name__":=by decide) (hdb:(c == ("__debug__":Str))=false:=by decide) (he:starEach (.Name c pc::es) X.env=(false,eval (.Name c pc) X.env)::starEach es X.env:=by rfl):NmL X (c::cs) (.Name c pc::es)
theorem nml_rd (h:NmL X cs es):∃vs,Paired (fun c v=>ClsV X.mg c v) cs vs/\(∀v,v∈vs->Cl1 v)/\PA3 X es (fun _ G Q=>Q (vs.map clsT) G):=by
 induction h with
 | nil=>exact⟨[],.nil,fun v h=>absurd h List.not_mem_nil,jJh⟩
 | cons hv h hg hn hdb he ih=>
  obtain⟨v,h1,h2⟩:=hv
  obtain⟨vs,i1,i2,i3⟩:=ih
  refine⟨v::vs,.cons h1 i1,fun u hu=> ?_,?_⟩
  ·rcases (List.mem_cons.mp hu) with rfl | hu
   ·exact h2
   ·exact i2 u hu
  ·exact jJb (e_nm h1 h2 hg hn hdb) i3 he
theorem kK1 {K:PySem.W.Frag} {H:Hp}:∀ {vs us:List Value} {ws:List V},(∀v,v∈vs->Cl1 v)->Reps K H (vs.map clsT) ws->Vals ws us->us=vs
 | [],_,_,_,r,q=>by cases (show _=[] from r);cases q;rfl
 | v::vs,us,ws,h,r,q=>by
  obtain⟨w,ws',e,r1,r2⟩:=(show ∃w ws',ws=w::ws'/\Rep K H (clsT v) w/\Reps K H (vs.map clsT) ws' from r)
  subst e
  cases q with
  | cons q1 q2=>rw[cl_eq (h v (List.mem_cons_self ..)) ⟨w,r1,q1⟩,kK1 (fun u hu=>h u (List.mem_cons_of_mem _ hu)) r2 q2]
theorem jYl {α β:Type} {F:α->β->Prop} (hF:∀a b b',F a b->F a b'->b=b'):∀ {l:List α} {m n:List β},Paired F l m->Paired F l n->m=n
 | _,_,_,.nil,.nil=>rfl
 | _,_,_,.cons a b,.cons c d=>by rw[hF _ _ _ a c,jYl hF b d]
theorem e_isiT {x:Expr}{k}(hrel:∀cn b,(cn,b)∈rel->IsX X.K X.mg cs cn b)(hcl:NmL X cs es)(hz:cs.length<=100)(hx:PE3 X x tx)(hm:X.mg "isinstance"=none)(hg:Gl X "isinstance":=by rfl)(he:starEach [x,.Tuple es k pc] X.env=(false,eval x X.env)::starEach [.Tuple es k pc] X.env:=by rfl)(he2:starEach [.Tuple es k pc] X.env=[(false,eval (.Tuple es k pc) X.env)]:=by rfl)(hpl:(backTo pos (starEach [.Tuple es k pc] X.env)).any (·.1)=false:=by rfl):
  PE3 X (.Call (.Name "isinstance" p) [x,.Tuple es k pc] [] pos) (jVb rel tx):=by
 obtain⟨vs,hv,hvc,hpa⟩:=nml_rd hcl
 have hl:vs.length=cs.length:=(Paired.length hv).symm
 intro pins s τ G H Q I h
 obtain⟨σ,I0,_,_⟩:=id I
 refine wpAny_Call_Name_kw (jUf I0 hg hm rfl ?_ (by decide) (by decide))
 refine PyProof.Rows.callWith_builtin1 ?_ he hpl
 rw[he,he2]
 refine Calls.spliced_cons (thn (hx pins s τ G H _ I h) fun u s1 w_=>w_.el fun y G1 H1 e1 I1 r1 q1=>Calls.spliced_cons (thn (jK9 (x1:=k) hpa pins s1 τ G1 H1 (fun t G2=>t= .tup (vs.map clsT)/\G2=G1) I1 ⟨by rw[List.length_map,hl,sizeLine_eq];omega,rfl,rfl⟩) fun u2 s2 w2=>Calls.spliced_nil ?_))
 obtain⟨t2,G2,H2,e2,I2,r2,rfl,rfl⟩:=w2
 obtain⟨a,cn,b,rfl,hG,hin,q⟩:=q1
 obtain⟨D,vs',hD,hk,hp,hka⟩:=(hrel cn b hin).ex
 obtain⟨v1,z1,z2⟩:=r1
 cases z1;cases z2
 cases jYl (F:=fun c v=>ClsV X.mg c v) (fun _ _ _ a b=>kZx a b) hp hv
 obtain⟨σ2,J2,_,_⟩:=id I2
 obtain⟨w2,y1,y2⟩:=r2
 obtain⟨tp,ws,rfl,hH,hr⟩:=(show ∃tp ws,w2= .ref tp/\H2 tp=some (.tup ws)/\Reps X.K H2 (vs.map clsT) ws from y1)
 cases y2
 obtain⟨_,its,hvals,⟨oc,od,odt,osl⟩,hget,hcls,n,hdat,hdic⟩:=(show ws.length<=sizeLine/\∃its:List Value,Vals ws its/\TupD s2.heap tp its.toArray from J2.hok tp _ hH)
 cases kK1 hvc hr hvals
 dsimp only at hcls hdat hdic
 subst hcls hdat hdic
 exact kia_tup (kQh hk) J2.kIn (qJj I2 hG hD) hget hka (by intro q;cases q) fun tk=>⟨.bl b,G2,H2,e1.trans e2,I2.tok tk,⟨.bl b,rfl,rfl⟩,q⟩
theorem exc_mk (X:K.In h)(G:h.Ns mainGlobals mg)(a:nsIn K mainGlobals cn=some (some (.ref C)))(q:excIn K C vmro "ValueError.__new__"=true):ExC K mg cn:=⟨C,a,mg_of X G a,q⟩
theorem exsub_mk {v:Bool}(X:K.In h)(G:h.Ns mainGlobals mg)(a:CX K cn C)(b:nsIn K mainGlobals c=some (some (.ref D)))(q:exmOne K (.ref C) (.ref D)=some v):ExSub K mg cn c v:=⟨C,D,a,mg_of X G b,q⟩
theorem clsv_own (X:K.In h)(G:h.Ns mainGlobals mg)(b:nsIn K mainGlobals c=some (some (.ref D))):∃v,ClsV mg c v/\Cl1 v:=⟨.ref D,.inl (mg_of X G b),D,.inl rfl⟩
theorem clsv_blt {n:String}(X:K.In h)(G:h.Ns mainGlobals mg)(b:nsIn K mainGlobals c=some none)(e:bootBuiltins c=some (.type n)):∃v,ClsV mg c v/\Cl1 v:=⟨.type n,.inr ⟨mg_none_of X G b,e⟩,0,.inr ⟨n,rfl⟩⟩
end L3
namespace L3
open PySem
end L3
namespace L3
open PySem PySem.Spec PyProof.Rows L2
end L3
namespace L3
open PySem PySem.Spec PyProof.Rows L2 PySem.W
structure CalMX (P:Program) (w:World) (K:PySem.W.Frag) (mg:Str->Option Value) (base:Heap) (k:Nat) (cn m:Str) (ps:List Str) (sp:SpX):Prop where
 ex:∃C f fd,CN K cn C/\Cls K C/\Meth K C m f/\FnX P w K mg base k f fd ps sp/\Binds K fd ps []
 mono:kYc sp
 len:∀xs G Q R,sp xs G Q R->xs.length=ps.length
def kK4 (cn m:Str)(sp:SpX)(ta:TE3)(t:TA3):TEx:=fun τ G Q R=>ta τ G fun x G1=>obR cn m G1 x=true/\t τ G1 fun xs G2=>sp (x::xs) G2 Q fun c G'=>R c τ G'
variable {X:Cx}{cn m:Str}{ps:List Str}{sp:SpX}{o e:Expr}{es:List Expr}{ta:TE3}{pos apos:Pos}{pl:Sem Bool}
section
variable {k:Nat}{t:TA3}
theorem qK0 (hn:Calm X)(M:CalMX X.prog X.w X.K X.mg X.base k cn m ps sp)(hr:Room k X.A)(he:PE3 X o ta)(ha:PA3 X (e::es) t)(hst:starEach (e::es) X.env=(false,eval e X.env)::starEach es X.env:=by rfl)(hpl:(backTo pos (starEach es X.env)).any (·.1)=false:=by rfl)(ht:eval (.Call (.Attribute o m apos) (e::es) [] pos) X.env=(do
   let ov <-eval o X.env
   standAt apos.atName
   let (f,first) <-holding [ov] (getMethod ov m pl)
   callWith pos f first (backTo pos (starEach (e::es) X.env)) (backToKw pos (keywordEach [] X.env))):=by rfl):
  PEx X (.Call (.Attribute o m apos) (e::es) [] pos) (kK4 cn m sp ta t):=by
 intro pins s τ G H Q R I h
 obtain⟨C,f,fd,hC,hc,hm,F,hb⟩:=M.ex
 refine PySem.W.methodCall_KW (pl:=pl) (thn (hn.any (he pins s τ G H _ I h)) fun u s1 w_=>w_.el fun x G1 H1 e1 I1 r_ q=>r_.el fun v rv ru=> ?_) ht
 obtain⟨ob,q⟩:=q
 obtain⟨a,fs,rfl,hG,hf⟩:=jU3 ob
 cases (show v= .ref a from rv)
 obtain rfl:u=Value.ref a:=ru
 obtain⟨σ,J1,hs1,hg1⟩:=id I1
 obtain⟨C',dx,ws,hH,hC',pk⟩:=(show ∃C dx ws,H1 a=some (.ins C dx ws)/\CN X.K cn C/\PKV X.K H1 fs ws from hg1 a _ hG)
 cases hC.one hC'
 refine jUb J1 hH hc hm ((jXn pk m).1 hf) ?_
 refine PySem.W.callWith_K (first:=[.ref a]) (h₀:=X.base) J1.ok.mod.kin hm.kp (thn (hn.any (ha pos pins s1 τ G1 H1 _ I1 q)) fun us s2 w_=>w_.el fun xs G2 H2 e2 i_ r_ q2=>i_.el fun σ2 I2 hs2 hg2=>r_.el fun as ras rvs=>⟨I2.kIn,?_⟩) hst hpl
 have rr:Reps X.K H2 (.ref a::xs) (.ref a::as):=⟨_,_,rfl,rfl,ras⟩
 refine thn (kVa (us:= .ref a::us) F hr hb M.mono M.len I2 hs2 hg2 rr (.cons rfl rvs) q2 fun a' C' cn' B a0 H' G' s' l ex g hc hw hR=> ?_) fun u s' z=>z.ext (e1.trans e2)
 exact⟨a',C',cn',B,a0,τ,G2,H2,s2,G',H',rfl,e1.trans e2,⟨σ2,I2,hs2,hg2⟩,l,ex,g,hc,hw,hR⟩
end
variable {K:PySem.W.Frag}{mg:Str->Option Value}{c1 c2:Str}
theorem rel2 {cs:List Str}{b1 b2:Bool}(h1:IsX K mg cs c1 b1)(h2:IsX K mg cs c2 b2):∀cn' b',(cn',b')∈[(c1,b1),(c2,b2)]->IsX K mg cs cn' b':=fun cn' b' z=>by
 rcases (List.mem_cons.mp z) with z | z
 ·cases z;exact h1
 ·cases List.mem_singleton.mp z;exact h2
theorem sub2 {c:Str}(h1:ExSub K mg c1 c true)(h2:ExSub K mg c2 c true):∀cn',cn'∈[c1,c2]->ExSub K mg cn' c true:=fun cn' z=>by
 rcases (List.mem_cons.mp z) with z | z
 ·cases z;exact h1
 ·cases List.mem_singleton.mp z;exact h2
def kU2 (cn m:Str)(sp:SpX)(R:XK3)(ta:TE3)(t:TA3):TE3:=fun τ G Q=>ta τ G fun x G1=>obR cn m G1 x=true/\t τ G1 fun xs G2=>sp (x::xs) G2 Q R
section
variable {k:Nat}{t:TA3}
theorem qK2 {R:XK3}(hx:XR X R)(M:CalMX X.prog X.w X.K X.mg X.base k cn m ps sp)(hr:Room k X.A)(he:PE3 X o ta)(ha:PA3 X (e::es) t)(hst:starEach (e::es) X.env=(false,eval e X.env)::starEach es X.env:=by rfl)(hpl:(backTo pos (starEach es X.env)).any (·.1)=false:=by rfl)(ht:eval (.Call (.Attribute o m apos) (e::es) [] pos) X.env=(do
   let ov <-eval o X.env
   standAt apos.atName
   let (f,first) <-holding [ov] (getMethod ov m pl)
   callWith pos f first (backTo pos (starEach (e::es) X.env)) (backToKw pos (keywordEach [] X.env))):=by rfl):
  PE3 X (.Call (.Attribute o m apos) (e::es) [] pos) (kU2 cn m sp R ta t):=by
 intro pins s τ G H Q I h
 obtain⟨C,f,fd,hC,hc,hm,F,hb⟩:=M.ex
 refine PySem.W.methodCall_KW (pl:=pl) (thn (he pins s τ G H _ I h) fun u s1 w_=>w_.el fun x G1 H1 e1 I1 r_ q=>r_.el fun v rv ru=> ?_) ht
 obtain⟨ob,q⟩:=q
 obtain⟨a,fs,rfl,hG,hf⟩:=jU3 ob
 cases (show v= .ref a from rv)
 obtain rfl:u=Value.ref a:=ru
 obtain⟨σ,J1,hs1,hg1⟩:=id I1
 obtain⟨C',dx,ws,hH,hC',pk⟩:=(show ∃C dx ws,H1 a=some (.ins C dx ws)/\CN X.K cn C/\PKV X.K H1 fs ws from hg1 a _ hG)
 cases hC.one hC'
 refine jUb J1 hH hc hm ((jXn pk m).1 hf) ?_
 refine PySem.W.callWith_K (first:=[.ref a]) (h₀:=X.base) J1.ok.mod.kin hm.kp (thn (ha pos pins s1 τ G1 H1 _ I1 q) fun us s2 w_=>w_.el fun xs G2 H2 e2 i_ r_ q2=>i_.el fun σ2 I2 hs2 hg2=>r_.el fun as ras rvs=>⟨I2.kIn,?_⟩) hst hpl
 have rr:Reps X.K H2 (.ref a::xs) (.ref a::as):=⟨_,_,rfl,rfl,ras⟩
 refine thn (kVa (us:= .ref a::us) F hr hb M.mono M.len I2 hs2 hg2 rr (.cons rfl rvs) q2 fun a' C' cn' B a0 H' G' s' l _ g hc hw hR=>hx.pass pins σ2 H2 s2 s' a' C' cn' B a0 H' G' I2 l g hc hw hR) fun u s' z=>z.ext (e1.trans e2)
end
end L3
namespace L3
open PySem PySem.Spec PyProof.Rows L2
variable {X:Cx}
variable {P:Program}{w:World}
section
variable {d:Addr}
theorem kUb {K:Type}[DecidableEq K](knd:HeapKind P w K)(a:Addr)(z:Value)(hd:(d == sysModules)=false):
  MeetsIn P w (Builtin.«dict.get» ⟨[.ref d,.ref a,z],[]⟩) (fun A R s=>knd.room A.in1/\∃k xs,knd.is s.heap k a/\s.heap.DictOfH knd d xs/\R (.ok (.ret (((atKey xs k).map (·.2)).getD z))) {s with toks:=s.toks+knd.draws k}):=
 .of_wp fun A R (s) ⟨hu,k,xs,hkey,hm,h⟩=>by
  unfold Builtin.«dict.get»; refine wpAny_bind ?_
  unfold Builtin.Dict.keyAndDefault;refine wpAny_bind (wpAny_notOrdered_dict hm.typeIs ?_)
  refine (show wpAny _ _ (pure (d,Value.ref a,some z)) _ _ s from wpAny_pure ?_)
  refine wpAny_bind (m:=dictGet d (.ref a)) (wpAny_dictGet_heap hu hkey hm ?_)
  cases e:(atKey xs k).map (·.2) with
  | some v=>rw[e] at h;exact wpAny_pure ⟨_,rfl,h⟩
  | none=>
   rw[e] at h
   refine wpAny_bind (m:=Builtin.Dict.missed d (.ref a)) ?_
   unfold Builtin.Dict.missed
   rw[if_neg (by rw[hd];exact (Bool.false_ne_true))]
   exact wpAny_pure (wpAny_pure ⟨_,rfl,h⟩)
end
def kKa:T->List T->Gp->VK3->Prop:=fun x as G Q=>∃p ys z o,x= .ref p/\as=[.tup ys,z]/\dAt G (.ref p) (.tup ys)=some o/\Q (o.getD z) G
theorem kQf (hu:X.A.units+20<cLine):Mt3 X "dict.get" kKa:=by
 rintro pins s τ G H x as v us Q ⟨σ,I,hs,hg⟩ ⟨a,ra,rv⟩ ⟨bs,rbs,rus⟩ ⟨p,ys,zz,o,ex,ea,hd,q⟩
 subst ex;subst ea
 cases (show a= .ref p from ra);cases rv
 obtain⟨b,bz,rfl,rb,rz⟩:=kVd rbs
 obtain⟨u1,uz,rfl,ru1,ruz⟩:=rus.two
 obtain⟨p',ov,ep,g,e1,e2⟩:=jX3 hg ra rb hd
 cases ep
 obtain⟨q',vs,e,h3,h4⟩:=(show ∃q vs,b= .ref q/\H q=some (.tup vs)/\Reps X.K H ys vs from rb)
 subst e
 cases (show u1=Value.ref q' from ru1)
 rcases g with ⟨kvs,k,e,ey,l⟩ | ⟨kvs,k,b,e,ey,eb,l⟩
 ·cases k<;>cases ey
 ·cases ey
  obtain⟨z,hdd,xs,rel,dd⟩:=kKs I.hok e
  refine call_meetsIn PySem.F.slot_dict_get dd.typeIs PySem.F.entry_dict_get (PySem.F.args_dict_get_3 _ _ _) (kUb (jJ2 X.prog X.w) q' uz hdd) ⟨jJv hu,k,xs,jXw I.hok eb,dd,?_⟩
  have ro:=rel.val k
  rw[<-l] at ro
  cases ov with
  | none=>
   cases o with
   | some t=>cases e1
   | none=>
    cases ea:atKey xs k with
    | some pp=>rw[ea] at ro;exact (show False from ro).elim
    | none=>exact⟨zz,G,H,.refl H,⟨σ,I.tok _,hs,hg⟩,⟨bz,rz,ruz⟩,q⟩
  | some wv=>
   cases o with
   | none=>cases e1
   | some t=>
    obtain⟨wv',e',rt⟩:=e2 t rfl
    cases e'
    cases ea:atKey xs k with
    | none=>rw[ea] at ro;exact (show False from ro).elim
    | some pp=>rw[ea] at ro;exact⟨t,G,H,.refl H,⟨σ,I.tok _,hs,hg⟩,⟨wv,rt,ro⟩,q⟩
variable {A:Around}{E:Value->Shared->Prop}{s:Shared}
section
variable {prog:Program}
end
section
variable {it l:Addr}{xs:Array Value}
end
end L3
namespace PySem
open Sem (wp)
set_option maxRecDepth 100000
end PySem
namespace L3
open PySem PySem.Spec PyProof.Rows L2
section
variable {prog:Program}{w:World}{A:Around}{E:Value->Shared->Prop}{s:Shared}
end
section
variable {X:Cx}
end
end L3
namespace L3
open PySem PySem.Spec PyProof.Rows L2 PySem.W
variable {prog:Program}{w:World}{A:Around}{E:Value->Shared->Prop}{s:Shared}
section
section
variable {R:Result->Shared->Prop}{I:Addr}{fp:List Addr}{G:Array GenState->Array GenState->Prop}{n:Nat}{P:Nat->Value->Prop}{St:Nat->Shared->Prop}
end
end
section
variable {X:Cx}
end
end L3
namespace PySem
open Sem (wp)
set_option maxRecDepth 100000
namespace F
end F
end PySem
namespace L3
open PySem PySem.Spec PyProof.Rows L2 PySem.W
variable {z i1 i2 l1 l2:Addr}{bb:Bool}{oT:Obj}{k1 k2:Nat}{xs ys:Array Value}{x y:Value}{Q:Option Value->Shared->Prop}
section
variable {prog:Program}{w:World}{A:Around}{E:Value->Shared->Prop}{s:Shared}
theorem kQv {M:Model}{a:Addr}{o:Obj}{Q:Option Obj->Shared->Prop}(ho:s.heap.get? a=some o)(h:Q (some o) s):wpAny M A (loadIfAlive a) Q E s:=by
 intro Γ p _
 unfold loadIfAlive
 rw[Sem.wp_loadIfAlive,ho]
 exact h
def ZipM (h:Heap)(z TI TO T:Addr)(b:Bool):Prop:=h.get? z=some {cls:= .type "zip",dict:=none,data:= .fields #[rawInt T,.bool b,.bool false,.ref TI,.ref TO],slots:= #[]}
theorem jZq {TI TO T:Addr}{K:Bool->Shared->Prop}(hz:ZipM s.heap z TI TO T bb)(k:∀h0,ZipM h0 z TI TO T true->Heap.SameBut z s.heap h0->K false {s with heap:=h0}):
  wpAny (model prog w) A (if (Value.bool bb != Value.bool true)=true then do setField (.ref z) 1 (.bool true);pure false else pure false) K E s:=by
 cases bb with
 | true=>exact wpAny_pure (k s.heap hz (.refl _ _))
 | false=>exact wpAny_bind (wpAny_setField_rec hz (by simp) fun h0 hz0 sb=>wpAny_pure (k h0 hz0 sb))
theorem jYq {TI TO T:Addr}{Q:Value->Shared->Prop}(D:ZipApart z TI TO i1 i2 l1 l2)(hz:ZipM s.heap z TI TO T bb)(hT:s.heap.get? T=some oT)(hTI:IsPair s.heap TI (.ref i1) (.ref i2))(h1:s.heap.IsListIter i1 l1 k1)(h2:s.heap.IsListIter i2 l2 k2)(hl1:s.heap.IsList l1 xs)(hl2:s.heap.IsList l2 ys)(hx:xs[k1]? =some x)(hy:ys[k2]? =some y)(hQ:∀h',ZipM h' z TI TO T true->h'.IsListIter i1 l1 (k1+1)->h'.IsListIter i2 l2 (k2+1)->IsPair h' s.heap.objs.size x y->h'.objs.size=s.heap.objs.size+1->
   (∀c o,c≠z->c≠i1->c≠i2->s.heap.get? c=some o->h'.get? c=some o)->Q (.ref s.heap.objs.size) {s with heap:=h'}):wpAny (model prog w) A (Builtin.«zip.__next__» ⟨[.ref z],[]⟩) (fun fin s'=>∃v,fin= .done (.ret v)/\Q v s') E s:=by
 refine (show wpAny _ _ (field (.ref z) 2 >>= _) _ _ _ from ?_)
 (refine wpAny_bind (wpAny_field hz rfl (x:= .bool false) rfl ?_))
 refine (show wpAny _ _ (field (.ref z) 3 >>= _) _ _ _ from ?_)
 (refine wpAny_bind (wpAny_field hz rfl (x:= .ref TI) rfl ?_))
 (refine wpAny_bind (wpAny_seqItems hTI rfl ?_))
 refine (show wpAny _ _ (Builtin.SmallTypes.ownedTupleIsFree (.ref z) >>= _) _ _ _ from ?_)
 refine wpAny_bind ?_
 (unfold Builtin.SmallTypes.ownedTupleIsFree)
 refine wpAny_bind (wpAny_field hz rfl (x:=rawInt T) rfl ?_)
 refine (show wpAny _ _ (loadIfAlive T >>= _) _ _ _ from ?_)
 refine wpAny_bind (kQv hT ?_)
 (simp only[Option.isNone_some,Bool.false_eq_true,if_false])
 refine wpAny_bind (wpAny_field hz rfl (x:= .bool bb) rfl ?_)
 refine jZq hz fun h0 hz0 sb=> ?_
 (simp only[Bool.false_eq_true,if_false])
 refine wpAny_bind ?_
 rw[<-Array.forIn_toList]
 (simp only[List.forIn_cons,List.forIn_nil])
 refine wpAny_bind (wpAny_bind (wpAny_holding ?_))
 refine (show wpAny _ _ (Builtin.SmallTypes.nextOf (.ref i1) >>= _) _ _ _ from ?_)
 refine wpAny_bind (wpAny_nextOf_list_item (s:={s with heap:=h0}) (h1.extBut sb.extBut D.i1z) (hl1.extBut sb.extBut D.l1z) hx fun h₂ h1₂ hs₂=>wpAny_pure (wpAny_pure ?_))
 dsimp only
 refine wpAny_bind (wpAny_bind (wpAny_holding ?_))
 refine (show wpAny _ _ (Builtin.SmallTypes.nextOf (.ref i2) >>= _) _ _ _ from ?_)
 refine wpAny_bind (wpAny_nextOf_list_item (s:={s with heap:=h₂ }) ((h2.extBut sb.extBut D.i2z).extBut hs₂.extBut D.i12.symm) ((hl2.extBut sb.extBut D.l2z).extBut hs₂.extBut D.l2i1) hy fun h₄ h2₄ hs₄=>wpAny_pure (wpAny_pure ?_))
 dsimp only
 refine wpAny_pure ?_
 dsimp only
 refine wpAny_bind (wpAny_newTuple ?_ (by show 2<=sizeLine;decide))
 have sz:h₄.objs.size=s.heap.objs.size:=by rw[hs₄.1,hs₂.1,sb.1]
 have kp:∀c o,c≠z->c≠i1->c≠i2->s.heap.get? c=some o->h₄.get? c=some o:=fun c o c1 c2 c3 e=>hs₄.extBut _ _ c3 (hs₂.extBut _ _ c2 (sb.extBut _ _ c1 e))
 (refine wpAny_pure ⟨_,rfl,?_⟩)
 show Q (.ref h₄.objs.size) _
 rw[sz]
 refine hQ _ (Heap.get?_push_of_some _ (hs₄.extBut _ _ D.i2z.symm (hs₂.extBut _ _ D.i1z.symm hz0))) ((h1₂.extBut hs₄.extBut D.i12).at fun o e=>Heap.get?_push_of_some _ e) (h2₄.at fun o e=>Heap.get?_push_of_some _ e) (by rw[<-sz];exact Heap.get?_push_size _ rfl) (by rw[Heap.size_push,sz]) fun c o c1 c2 c3 e=>Heap.get?_push_of_some _ (kp c o c1 c2 c3 e)
theorem jZp {TI TO T:Addr}{Q:PySem.Fin->Shared->Prop}(hh:A.handled=none)(D:ZipApart z TI TO i1 i2 l1 l2)(hz:ZipM s.heap z TI TO T bb)(hT:s.heap.get? T=some oT)(hTI:IsPair s.heap TI (.ref i1) (.ref i2))(h1:s.heap.IsListIter i1 l1 k1)(hl1:s.heap.IsList l1 xs)(hx:xs[k1]? =none)(hE:∀h' e,(∀c o,c≠z->c≠i1->s.heap.get? c=some o->h'.get? c=some o)->(∃o,h'.get? e=some o/\o.cls= .type "StopIteration")->E (.ref e) {s with heap:=h'}):wpAny (model prog w) A (Builtin.«zip.__next__» ⟨[.ref z],[]⟩) Q E s:=by
 refine (show wpAny _ _ (field (.ref z) 2 >>= _) _ _ _ from ?_)
 (refine wpAny_bind (wpAny_field hz rfl (x:= .bool false) rfl ?_))
 refine (show wpAny _ _ (field (.ref z) 3 >>= _) _ _ _ from ?_)
 (refine wpAny_bind (wpAny_field hz rfl (x:= .ref TI) rfl ?_))
 (refine wpAny_bind (wpAny_seqItems hTI rfl ?_))
 refine (show wpAny _ _ (Builtin.SmallTypes.ownedTupleIsFree (.ref z) >>= _) _ _ _ from ?_)
 refine wpAny_bind ?_
 (unfold Builtin.SmallTypes.ownedTupleIsFree)
 refine wpAny_bind (wpAny_field hz rfl (x:=rawInt T) rfl ?_)
 refine (show wpAny _ _ (loadIfAlive T >>= _) _ _ _ from ?_)
 refine wpAny_bind (kQv hT ?_)
 (simp only[Option.isNone_some,Bool.false_eq_true,if_false])
 refine wpAny_bind (wpAny_field hz rfl (x:= .bool bb) rfl ?_)
 refine jZq hz fun h0 hz0 sb=> ?_
 (simp only[Bool.false_eq_true,if_false])
 refine wpAny_bind ?_
 rw[<-Array.forIn_toList]
 (simp only[List.forIn_cons,List.forIn_nil])
 refine wpAny_bind (wpAny_bind (wpAny_holding ?_))
 refine (show wpAny _ _ (Builtin.SmallTypes.nextOf (.ref i1) >>= _) _ _ _ from ?_)
 refine wpAny_bind (wpAny_nextOf_list_end (s:={s with heap:=h0}) hh (h1.extBut sb.extBut D.i1z) (hl1.extBut sb.extBut D.l1z) hx fun h₂ e hs₂ he=> ?_)
 exact hE h₂ e (fun c o c1 c2 q=>hs₂ _ _ c2 (sb.extBut _ _ c1 q)) he
theorem jVv {TI TO T:Addr}(D:ZipApart z TI TO i1 i2 l1 l2)(hz:ZipM s.heap z TI TO T bb)(hT:s.heap.get? T=some oT)(hTI:IsPair s.heap TI (.ref i1) (.ref i2))(h1:s.heap.IsListIter i1 l1 k1)(h2:s.heap.IsListIter i2 l2 k2)(hl1:s.heap.IsList l1 xs)(hl2:s.heap.IsList l2 ys)(hx:xs[k1]? =some x)(hy:ys[k2]? =some y)(hQ:∀h',ZipM h' z TI TO T true->h'.IsListIter i1 l1 (k1+1)->h'.IsListIter i2 l2 (k2+1)->IsPair h' s.heap.objs.size x y->
   (∀c o,c≠z->c≠i1->c≠i2->s.heap.get? c=some o->h'.get? c=some o)->Q (some (.ref s.heap.objs.size)) {s with heap:=h'}):wpAny (model prog w) A (pyNext (.ref z)) Q E s:=by
 have hTy:s.TypeIs (.ref z) "zip":=⟨_,hz,rfl⟩
 unfold pyNext
 exact wpAny_bind (wpAny_attempt (wpAny_callSpecial?_slot (name:=Str.ofString "__next__") hTy PySem.F.slot_zip_next
  (wpAny_call_entry PySem.F.slot_zip_next hTy PySem.F.entry_zip_next
   (jYq D hz hT hTI h1 h2 hl1 hl2 hx hy fun h' a1 a2 a3 a4 _ a5=>wpAny_pure (hQ h' a1 a2 a3 a4 a5)) (PySem.F.args_zip_next_1 _))))
theorem jXm {TI TO T:Addr}(hh:A.handled=none)(D:ZipApart z TI TO i1 i2 l1 l2)(hz:ZipM s.heap z TI TO T bb)(hT:s.heap.get? T=some oT)(hTI:IsPair s.heap TI (.ref i1) (.ref i2))(h1:s.heap.IsListIter i1 l1 k1)(hl1:s.heap.IsList l1 xs)(hx:xs[k1]? =none)(hQ:∀h',(∀c o,c≠z->c≠i1->s.heap.get? c=some o->h'.get? c=some o)->Q none {s with heap:=h'}):wpAny (model prog w) A (pyNext (.ref z)) Q E s:=by
 have hTy:s.TypeIs (.ref z) "zip":=⟨_,hz,rfl⟩
 unfold pyNext
 refine wpAny_bind (wpAny_attempt (wpAny_callSpecial?_slot (name:=Str.ofString "__next__") hTy PySem.F.slot_zip_next
  (wpAny_call_entry PySem.F.slot_zip_next hTy PySem.F.entry_zip_next (jZp hh D hz hT hTI h1 hl1 hx fun h' e hk he=> ?_) (PySem.F.args_zip_next_1 _))))
 obtain⟨o,ho,hc⟩:=he
 (refine wpAny_bind (wpAny_isInstance (T:="StopIteration") (b:=true) ⟨o,ho,hc⟩ isSubtype_stop ?_))
 exact wpAny_pure (hQ _ hk)
end
section
variable {X:Cx}
end
end L3
namespace L3
open PySem PySem.Spec PyProof.Rows L2
section
variable {X:Cx}
end
end L3
namespace L3
open PySem PySem.Spec PyProof.Rows L2 PySem.W
variable {prog:Program}{w:World}
section
variable {A:Around}{E:Value->Shared->Prop}{s:Shared}{d:Addr}{o:Obj}{es:Array DictEntry}{ep:Nat}
theorem kJk {id:String}{Q:Array DictEntry->Shared->Prop}(ho:s.heap.get? d=some o)(hd:o.data= .dict es ep)(hall:∀e,e∈es.toList->(es.filter (·.hash == e.hash)).size<=1/\∃b,e.key= .ref b/\s.TypeIs (.ref b) "tuple")(h:Q es s):wpAny (model prog w) A (Builtin.Dict.entriesForEmpty id d) Q E s:=by
 (unfold Builtin.Dict.entriesForEmpty)
 (refine wpAny_bind (wpAny_dictEntries ho hd ?_))
 refine wpAny_bind ?_
 rw[<-Array.forIn_toList]
 refine wpAny_forIn_list _ (fun rest _ s'=>s'=s/\∀e,e∈rest->e∈es.toList) _ ?_ ?_ _ _ ⟨rfl,fun e he=>he⟩
 ·rintro e rest b s' ⟨rfl,hr⟩
  obtain⟨h1,p,h2,h3⟩:=hall e (hr e (List.mem_cons_self ..))
  rw[h2]
  refine wpAny_bind ?_
  unfold Builtin.Dict.quietEq
  refine wpAny_bind (wpAny_specialOf h3 PySem.F.slot_tuple_eq.lookup (wpAny_pure ?_))
  rw[if_pos (by decide),if_neg (by omega)]
  exact wpAny_pure ⟨rfl,fun e he=>hr e (List.mem_cons_of_mem _ he)⟩
 ·rintro b s' ⟨rfl,_⟩
  exact wpAny_pure h
theorem kUo {l:Addr}{Q:Value->Shared->Prop}(hl:(l == sysModules)=false)(ho:s.heap.get? l=some o)(hc:o.ExactDict)(hx:o.data= .dict es ep)(hz:es.size<=sizeLine)(hall:∀e,e∈es.toList->(es.filter (·.hash == e.hash)).size<=1/\∃b,e.key= .ref b/\s.TypeIs (.ref b) "tuple")(k:∀h' o' ep',h'.get? s.heap.objs.size=some o'->o'.ExactDict->o'.data= .dict es ep'->(∀b u,s.heap.get? b=some u->h'.get? b=some u)->Q (.ref s.heap.objs.size) {s with heap:=h'}):
  wpAny (model prog w) A (call (.type "dict") [.ref l]) Q E s:=by
 refine callType_codes (Q₁:=fun obj s₁=>obj= .ref s.heap.objs.size/\s₁={s with heap:=s.heap.push {cls:= .type "dict",data:= .dict #[]} }) PySem.F.kt_called_dict (PySem.F.kt_typeCall_dict_1 _) PySem.F.entry_dict_init (kt_code_dict_new _ ⟨rfl,rfl⟩) ?_
 rintro obj s₁ ⟨rfl,rfl⟩
 have hn:(s.heap.push {cls:= .type "dict",data:= .dict #[]}).get? s.heap.objs.size=some {cls:= .type "dict",data:= .dict #[]}:=Heap.get?_push_size _ rfl
 have up:∀b u,s.heap.get? b=some u->(s.heap.push {cls:= .type "dict",data:= .dict #[]}).get? b=some u:=fun b u e=>Heap.get?_push_of_some _ e
 have ho':=up _ _ ho
 have hTn:Shared.TypeIs {s with heap:=s.heap.push {cls:= .type "dict",data:= .dict #[]} } (.ref s.heap.objs.size) "dict":=⟨_,hn,rfl⟩
 have hTl:Shared.TypeIs {s with heap:=s.heap.push {cls:= .type "dict",data:= .dict #[]} } (.ref l) "dict":=⟨_,ho',hc.1⟩
 have hdl:s.heap.objs.size≠l:=fun e=>absurd (Heap.lt_size ho) (by rw[e];exact Nat.lt_irrefl _)
 refine⟨hTn,PySem.F.args_dict_init_2 _ _,?_⟩
 (unfold Builtin.«dict.__init__»)
 refine wpAny_bind ?_
 (unfold Builtin.Dict.selfAndRest)
 refine wpAny_bind (wpAny_notOrdered_dict hTn ?_)
 refine (show wpAny _ _ (pure (s.heap.objs.size,[Value.ref l])) _ _ _ from ?_)
 refine wpAny_pure ?_
 refine (show wpAny _ _ (Builtin.Dict.updateFrom "dict.__init__" s.heap.objs.size (.ref l) [] .none) _ _ _ from ?_)
 (unfold Builtin.Dict.updateFrom)
 refine wpAny_bind (wpAny_typeOf hTl ?_)
 rw[if_neg (by decide)]
 refine wpAny_bind ?_
 unfold Builtin.Dict.merge
 refine wpAny_bind ?_
 (unfold Builtin.Dict.readDirectly)
 refine wpAny_bind (wpAny_isInstance hTl isSubtype_dict_dict ?_)
 (simp only[Bool.not_true,Bool.false_eq_true,if_false])
 refine wpAny_bind (wpAny_specialOf hTl PySem.F.slot_dict_iter.lookup (wpAny_pure ?_))
 (simp only[beq_self_eq_true,if_true])
 refine wpAny_bind (wpAny_pure ?_)
 unfold Builtin.Dict.mergeDict
 rw[if_neg (by simpa using hdl)]
 unfold Builtin.Dict.showsAll
 (rw[if_neg (by rw[hl];exact Bool.false_ne_true)])
 refine wpAny_bind (wpAny_pure ?_)
 refine wpAny_bind (wpAny_dictEntries ho' hx ?_)
 dsimp only
 split
 ·refine wpAny_bind (wpAny_dictEntries hn rfl ?_)
  rw[if_pos (by rfl)]
  refine wpAny_bind (kJk ho' hx (fun e he=> ?_) ?_)
  ·obtain⟨h1,b,h2,u,h3,h4⟩:=hall e he
   exact⟨h1,b,h2,u,up _ _ h3,h4⟩
  have ex:Obj.ExactDict {cls:= .type "dict",data:= .dict #[]}:=⟨rfl,rfl,rfl⟩
  split
  ·refine wpAny_bind (wpAny_updateDictKeysTo hn rfl (wpAny_pure ?_) (by omega))
   exact wpAny_bind (wpAny_pure (wpAny_pure ⟨rfl,k _ _ _ (Heap.get?_update_self _ hn (Obj.isFreed_of_dict (Obj.data_mapDictKeys rfl _))) (ex.mapDictKeys _) (Obj.data_mapDictKeys rfl _) fun b u e=>((Heap.SameBut.update ..).2 b (Nat.ne_of_lt (Heap.lt_size e))).trans (up b u e)⟩))
  ·rename_i he
   have h0:es= #[]:=Array.isEmpty_iff.mp (by simpa using he)
   subst h0
   exact wpAny_pure (wpAny_bind (wpAny_pure (wpAny_pure ⟨rfl,k _ _ _ hn ex rfl up⟩)))
 ·rename_i he
  have h0:es= #[]:=by
   obtain⟨l⟩:=es
   cases l with
   | nil=>rfl
   | cons e l=>
    obtain⟨_,b,h2,_⟩:=hall e (by simp)
    simp[h2,keyPart] at he
  subst h0
  refine wpAny_bind (wpAny_dictEpoch ho' hx ?_)
  refine wpAny_bind (wpAny_dictEntries ho' hx ?_)
  refine wpAny_bind ?_
  (rw[Std.Legacy.Range.forIn_eq_forIn_range'])
  refine (show wpAny _ _ (forIn ([]:List Nat) PUnit.unit _) _ _ _ from ?_)
  rw[List.forIn_nil]
  exact wpAny_pure (wpAny_pure (wpAny_bind (wpAny_pure (wpAny_pure ⟨rfl,k _ _ _ hn ⟨rfl,rfl,rfl⟩ rfl up⟩))))
end
def hf (r d:Nat):Int:=reduceHash (Builtin.Tuple.tupleHashOf [hashInt r,hashInt d])
def hfs:List Int:=(List.range 24).flatMap fun r=>(List.range 12).map (hf r)
theorem kXb:hfs.Nodup:=by decide +kernel
theorem kQn {f:Nat->Nat->Int} {m:Nat}:∀ {n:Nat},((List.range n).flatMap fun r=>(List.range m).map (f r)).Nodup->∀ {r d r' d':Nat},r<n->d<m->r'<n->d'<m->f r d=f r' d'->r=r'/\d=d'
 | 0,_,_,_,_,_,hr,_,_,_,_=>absurd hr (Nat.not_lt_zero _)
 | n+1,h,r,d,r',d',hr,hd,hr',hd',e=>by
  rw[List.range_succ,List.flatMap_append,List.nodup_append] at h
  obtain⟨h1,h2,h3⟩:=h
  have mem:∀ {r d:Nat},r<n->d<m->f r d∈(List.range n).flatMap fun r=>(List.range m).map (f r):=fun {r d} hr hd=>List.mem_flatMap.mpr ⟨r,List.mem_range.mpr hr,List.mem_map.mpr ⟨d,List.mem_range.mpr hd,rfl⟩⟩
  have mem2:∀ {d:Nat},d<m->f n d∈([n]:List Nat).flatMap fun r=>(List.range m).map (f r):=fun {d} hd=>List.mem_flatMap.mpr ⟨n,List.mem_singleton.mpr rfl,List.mem_map.mpr ⟨d,List.mem_range.mpr hd,rfl⟩⟩
  rcases Nat.lt_or_ge r n with a | a
  ·rcases Nat.lt_or_ge r' n with b | b
   ·exact kQn h1 a hd b hd' e
   ·have:r'=n:=by omega
    subst this
    exact absurd e (h3 _ (mem a hd) _ (mem2 hd'))
  ·have:r=n:=by omega
   subst this
   rcases Nat.lt_or_ge r' r with b | b
   ·exact absurd e.symm (h3 _ (mem b hd') _ (mem2 hd))
   ·have:r'=r:=by omega
    subst this
    refine⟨rfl,?_⟩
    rw[List.flatMap_singleton,List.Nodup,List.pairwise_map] at h2
    rcases Nat.lt_trichotomy d d' with q | q | q
    ·exact absurd e (List.pairwise_iff_getElem.mp h2 d d' (by simpa using hd) (by simpa using hd') q|>fun z=>by simpa using z)
    ·exact q
    ·exact absurd e.symm (List.pairwise_iff_getElem.mp h2 d' d (by simpa using hd') (by simpa using hd) q|>fun z=>by simpa using z)
def kJt (k:TKey):Prop:=∃r d:Nat,r<24/\d<12/\k=[.inl (.inl (r:Int)),.inl (.inl (d:Int))]
theorem kU8 {k k':TKey}(h:kJt k)(h':kJt k')(e:(jJ2 prog w).hash k=(jJ2 prog w).hash k'):k=k':=by
 obtain⟨r,d,hr,hd,rfl⟩:=h
 obtain⟨r',d',hr',hd',rfl⟩:=h'
 obtain⟨rfl,rfl⟩:=kQn kXb hr hd hr' hd' (show hf r d=hf r' d' from e)
 rfl
theorem kQb {α:Type} {f:α->Int} {g:α->DictEntry} (hg:∀a,(g a).hash=f a):∀ {xs:List α},(∀a,a∈xs->∀b,b∈xs->f a=f b->a=b)->xs.Nodup->∀a,a∈xs->((xs.map g).filter fun e=>e.hash == (g a).hash).length<=1
 | [],_,_,a,ha=>absurd ha List.not_mem_nil
 | x::xs,hi,hn,a,ha=>by
  rw[List.nodup_cons] at hn
  rw[List.map_cons,List.filter_cons]
  have none:∀y,y∉xs->y∈x::xs->((xs.map g).filter fun e=>e.hash == (g y).hash)=[]:=fun y hy hm=>by
   rw[List.filter_eq_nil_iff]
   intro e he z
   obtain⟨b,hb,rfl⟩:=List.mem_map.mp he
   have z:(g b).hash=(g y).hash:=by simpa using z
   rw[hg,hg] at z
   exact hy (hi b (List.mem_cons_of_mem _ hb) y hm z▸hb)
  by_cases e:x=a
  ·subst e
   rw[if_pos (by simp),none x hn.1 (List.mem_cons_self ..)]
   simp
  ·have hax:a∈xs:=(List.mem_cons.mp ha).resolve_left fun z=>e z.symm
   have ne:¬ ((g x).hash == (g a).hash)=true:=fun z=>by
    have z:(g x).hash=(g a).hash:=by simpa using z
    rw[hg,hg] at z
    exact e (hi x (List.mem_cons_self ..) a ha z)
   rw[if_neg ne]
   exact kQb hg (fun a ha b hb=>hi a (List.mem_cons_of_mem _ ha) b (List.mem_cons_of_mem _ hb)) hn.2 a hax
section
variable {X:Cx}
noncomputable def kVg:List T->Gp->VK3->Prop:=fun xs G Q=>∃(p:Addr) (kvs:List (TKey×T)),xs=[.ref p]/\G p=some (.dct kvs)/\(∀e,e∈kvs->kJt e.1)/\∀q,G q=none->Q (.ref q) (gup G q (.dct kvs))
theorem qQa:Call3 X (.type "dict") kVg:=by
 rintro pins s τ G H xs us Q ⟨σ,I,hs,hg⟩ ⟨as,ras,rvs⟩ ⟨pa,kvs,ex,hp,hk,q⟩
 subst ex
 obtain⟨v,rfl,rv⟩:=jVr ras
 obtain⟨u,rfl,ru⟩:=rvs.one
 cases (show v= .ref pa from rv);cases ru
 obtain⟨ws,h1,h2⟩:=(show ∃ws,H pa=some (.dT ws)/\PKV X.K H kvs ws from hg pa _ hp)
 obtain⟨z,hd,xs,rel,o,es,ep,ho,hc,hx,he,hn⟩:=(show ObjOk X.prog X.w H s.heap pa (.dT ws) from I.hok pa _ h1)
 have l1:es.size=xs.length:=by have a1:=congrArg List.length he;simpa using a1
 have l2:=Paired.length rel
 have small:∀x,x∈xs->kJt x.1/\TKeyAt H x.1 x.2.1:=fun x hx=>by
  obtain⟨i,hi⟩:=List.getElem?_of_mem hx
  have hiw:i<ws.length:=by have:=(List.getElem?_eq_some_iff.mp hi).1;omega
  obtain⟨y,k1,k2,k3,_⟩:=jVh rel (List.getElem?_eq_getElem hiw)
  rw[hi] at k1;cases k1
  have hik:i<kvs.length:=by have:=h2.length;omega
  obtain⟨w',m1,m2,_⟩:=jVh h2 (List.getElem?_eq_getElem hik)
  rw[List.getElem?_eq_getElem hiw] at m1;cases m1
  rw[<-k2,<-m2]
  exact⟨hk _ (List.getElem_mem hik),by rw[m2];exact k3⟩
 have xn:xs.Nodup:=List.Pairwise.of_map _ (fun a b hab=>fun z=>hab (by rw[z])) hn
 have xi:∀a,a∈xs->∀b,b∈xs->(jJ2 X.prog X.w).hash a.1=(jJ2 X.prog X.w).hash b.1->a=b:=fun a ha b hb e=>by
  have ek:=kU8 (small a ha).1 (small b hb).1 e
  obtain⟨i,hi⟩:=List.getElem?_of_mem ha
  (obtain⟨j,hj⟩:=List.getElem?_of_mem hb)
  have hil:=(List.getElem?_eq_some_iff.mp hi).1
  have:=(List.getElem?_inj (by simpa using hil) hn).mp (show (xs.map (·.1))[i]? =(xs.map (·.1))[j]? by rw[List.getElem?_map,List.getElem?_map,hi,hj];simp[ek])
  subst this
  rw[hi] at hj;exact Option.some.inj hj
 refine kUo hd ho hc hx (by omega) (fun e hee=> ?_) fun h' o' ep' hn' hc' hx' kp=> ?_
 ·rw[he] at hee
  obtain⟨x,hxm,rfl⟩:=List.mem_map.mp hee
  obtain⟨vs,r1,r2⟩:=(small x hxm).2
  refine⟨?_,x.2.1,rfl,?_⟩
  ·have:=kQb (g:=entryOfKey (jJ2 X.prog X.w)) (fun a=>rfl) xi xn x hxm
   rw[<-he] at this
   have e2:(es.filter fun e'=>e'.hash == (entryOfKey (jJ2 X.prog X.w) x).hash).size=(es.toList.filter fun e'=>e'.hash == (entryOfKey (jJ2 X.prog X.w) x).hash).length:=by
    rw[<-Array.length_toList,Array.toList_filter]
   rw[e2];exact this
  ·obtain⟨_,its,_,ot,hot,hct,_⟩:=(show ObjOk X.prog X.w H s.heap x.2.1 (.tup vs) from I.hok _ _ r1)
   exact⟨ot,hot,hct⟩
 have fr:=I.hok.fresh (Nat.le_refl s.heap.objs.size)
 have ext:Ext H (upd H s.heap.objs.size (.dT ws)):= .upd (.none fr)
 have big:=I.big
 have I3:=I.laid (a:=s.heap.objs.size) (o:= .dT ws) (h':=h') (t':=s.toks) kp (Nat.le_refl _) ⟨z,by simpa using (Nat.ne_of_gt big),xs,Paired.mapP rel fun p q z=>⟨z.1,z.2.1.mono fun b ys e=>ext.tup _ _ e,z.2.2⟩,o',es,ep',hn',hc',hx',he,hn⟩
 exact⟨.ref _,_,_,ext,⟨σ,I3,hs.mono ext,hg.upd (.none fr) (go:= .dct kvs) ⟨ws,jJn,h2.mono ext⟩⟩,⟨.ref _,rfl,rfl⟩,q _ (hg.fresh fr)⟩
end
end L3
namespace L3
open PySem PySem.Spec PyProof.Rows L2
theorem kJh (y:Array Nat):∀(n:Nat) (z:Array Nat),((List.replicate n y).foldl (· ++ ·) z).size=z.size+n*y.size
 | 0,z=>by simp
 | n+1,z=>by rw[List.replicate_succ,List.foldl_cons,kJh y n,Array.size_append];rw[Nat.add_mul];omega
section
variable {X:Cx}
def rIxS:R3:=fun x y G Q=>∃(z:Str) (i:Nat) (c:Nat),x= .str z/\y= .int i/\i<1000/\z.cps[i]? =some c/\Q (.str ⟨#[c]⟩) G
theorem ix_S:Ix3 X rIxS:=by
 rintro value slice pins s τ G H x y v u Q ⟨σ,I,hs,hg⟩ ⟨a,ra,rv⟩ ⟨b,rb,ru⟩ ⟨z,i,c,ex,ey,hi,hc,q⟩ hsl
 subst ex;subst ey
 cases (show a= .str z from ra)
 cases (show b= .int (i:Nat) from rb)
 obtain⟨t,rfl⟩:=rv
 obtain⟨t',rfl⟩:=ru
 have hT:s.TypeIs (.str z t) "str":=typeIs_str s z t
 have hlt:i<z.cps.size:=(Array.getElem?_eq_some_iff.mp hc).1
 unfold subscriptTail
 refine wpAny_bind ?_
 rw[getitemInPython_of_ne hT.not_modules]
 refine wpAny_bind (wpAny_specialOf hT PySem.F.slot_str_getitem.lookup ?_)
 have fin:wpAny (model X.prog X.w) X.A (subscripted slice false (.str z t) (.int (i:Nat) t')) (fun r s₃=>wpAny (model X.prog X.w) X.A (letTemporaryGo value (.str z t) r >>= fun _=>pure r) (EP3 X pins τ H Q) X.xe s₃) X.xe s:=by
  rw[hsl]
  refine wpAny_operating (PyProof.Rows.getItem_str (c:=c) ?_ ?_ ?_)
  ·rw[Bool.or_eq_false_iff];exact⟨decide_eq_false (by omega),decide_eq_false (by omega)⟩
  ·have:seqIndex? (i:Int) z.length=some i:=by
    unfold seqIndex?
    have h0:¬ ((i:Int)<0):=by omega
    simp[Str.length,hlt,h0]
   rw[this];exact hc
  ·exact wpAny_bind (wpAny_letTemporaryGo (wpAny_pure ⟨.str ⟨#[c]⟩,G,H,.refl H,⟨σ,I.tok _,hs,hg⟩,⟨.str _,rfl,⟨_,rfl⟩⟩,q⟩))
 first
  | exact wpAny_pure (wpAny_bind fin)
  | exact wpAny_bind (wpAny_pure (wpAny_bind fin))
def kU5 (x:Str)(n:Nat):Str:=if n=1 then x else ⟨(List.replicate n x.cps).foldl (· ++ ·) #[]⟩
def qJ2:R3:=fun x y G Q=>∃(z:Str) (n:Nat),x= .str z/\y= .int n/\1<=n/\n<=100/\z.length=1/\Q (.str (kU5 z n)) G
theorem o_mulS:Op3 X (binaryOp .Mult) qJ2:=by
 rintro pins s τ G H x y v u Q ⟨σ,I,hs,hg⟩ ⟨a,ra,rv⟩ ⟨b,rb,ru⟩ ⟨z,n,ex,ey,h1,h2,hz,q⟩
 subst ex;subst ey
 cases (show a= .str z from ra)
 cases (show b= .int (n:Nat) from rb)
 obtain⟨t,rfl⟩:=rv
 obtain⟨t',rfl⟩:=ru
 have hn1:¬ ((n:Int)<1):=by omega
 have big:(100:Nat)<=sizeLine:=by rw[sizeLine_eq];decide
 refine PySem.P.mul_str ?_ (fun _ _=> ?_) (fun _ _=> ?_) ?_
 ·rw[Bool.or_eq_false_iff];exact⟨decide_eq_false (by omega),decide_eq_false (by omega)⟩
 ·rw[hz]
  have:(1:Int)<=(2^63-1) / (n:Int):=(Int.le_ediv_iff_mul_le (by omega)).mpr (by omega)
  omega
 ·rw[hz,Builtin.Str.tooLong];simp;omega
 ·rw[if_neg hn1]
  unfold kU5 at q
  by_cases e:n=1
  ·subst e
   rw[if_pos rfl] at q
   rw[if_pos (by rfl)]
   exact⟨.str z,G,H,.refl H,⟨σ,I,hs,hg⟩,⟨.str _,rfl,⟨_,rfl⟩⟩,q⟩
  ·rw[if_neg e] at q
   rw[if_neg (by rw[hz];simp;omega)]
   rw[Int.toNat_natCast]
   refine⟨?_,.str ⟨(List.replicate n z.cps).foldl (· ++ ·) #[]⟩,G,H,.refl H,⟨σ,I.tok _,hs,hg⟩,⟨.str _,rfl,⟨_,rfl⟩⟩,q⟩
   have hz':z.cps.size=1:=hz
   show ((List.replicate n z.cps).foldl (· ++ ·) #[]).size<=sizeLine
   rw[kJh,hz']
   simp;omega
end
end L3
namespace L3
open PySem PySem.Spec PyProof.Rows L2 PySem.W
theorem kUt:typeLookup (.type "zip") "__len__"=pure none:=by rw[typeLookup_type,builtinLookup_eq_fast];kernel_rfl
theorem kQy:typeLookup (.type "zip") "__length_hint__"=pure none:=by rw[typeLookup_type,builtinLookup_eq_fast];kernel_rfl
structure ZSt (h:Heap) (z TI TO i1 i2 l1 l2:Addr) (xs ys:Array Value) (i:Nat):Prop where
 zip:(IsZip h z TI TO .none/\∃a b,IsPair h TO a b)\/∃T bb o,ZipM h z TI TO T bb/\h.get? T=some o/\o.cls= .type "tuple"
 TI_:IsPair h TI (.ref i1) (.ref i2)
 it1:h.IsListIter i1 l1 i
 it2:h.IsListIter i2 l2 i
 li1:h.IsList l1 xs
 li2:h.IsList l2 ys
variable {prog:Program}{w:World}{A:Around}{E:Value->Shared->Prop}{s:Shared}{z i1 i2 l1 l2 S:Addr}{i c:Nat}{h:Heap}{Q:Option Value->Shared->Prop}
section
variable {TI TO:Addr}{xs ys:Array Value}{h':Heap}
theorem ZSt.ty (a:ZSt s.heap z TI TO i1 i2 l1 l2 xs ys i):s.TypeIs (.ref z) "zip":=by
 rcases a.zip with ⟨e,_⟩ | ⟨T,bb,o,e,_⟩
 ·exact⟨_,e,rfl⟩
 ·exact⟨_,e,rfl⟩
theorem ZSt.moved {acc:Array Value}(D:ZipApart z TI TO i1 i2 l1 l2)(a:ZSt h z TI TO i1 i2 l1 l2 xs ys i)(hS:h.get? S=some {cls:= .type "list",dict:=none,data:= .seq acc c,slots:= #[]})(sl1:S≠l1)(sl2:S≠l2)(kp:∀b o,b≠S->h.get? b=some o->h'.get? b=some o):ZSt h' z TI TO i1 i2 l1 l2 xs ys i:=by
 have ne:∀ {b:Addr} {o:Obj},h.get? b=some o->o.cls≠ .type "list"->b≠S:=fun e c q=>by subst q;rw[hS] at e;cases e;exact c rfl
 have nz:¬ (Value.type "zip"=Value.type "list"):=by decide
 have nt:¬ (Value.type "tuple"=Value.type "list"):=by decide
 obtain⟨q,a1,a2,a3,a4,a5⟩:=a
 refine⟨?_,kp _ _ (ne a1 nt) a1,?_,?_,a4.at fun o e=>kp _ o sl1.symm e,a5.at fun o e=>kp _ o sl2.symm e⟩
 ·rcases q with ⟨e,a,b,f⟩ | ⟨T,bb,o,e,f,g⟩
  ·exact .inl ⟨kp _ _ (ne e nz) e,a,b,kp _ _ (ne f nt) f⟩
  ·exact .inr ⟨T,bb,o,kp _ _ (ne e nz) e,kp _ _ (ne f (by rw[g];decide)) f,g⟩
 ·obtain⟨o,e,c,d⟩:=a2;exact⟨o,kp _ _ (ne e (by rw[c];decide)) e,c,d⟩
 ·obtain⟨o,e,c,d⟩:=a3;exact⟨o,kp _ _ (ne e (by rw[c];decide)) e,c,d⟩
theorem kYf {x y:Value}(D:ZipApart z TI TO i1 i2 l1 l2)(a:ZSt s.heap z TI TO i1 i2 l1 l2 xs ys i)(hx:xs[i]? =some x)(hy:ys[i]? =some y)(hQ:∀h',ZSt h' z TI TO i1 i2 l1 l2 xs ys (i+1)->IsPair h' s.heap.objs.size x y->(∀c o,c≠z->c≠TO->c≠i1->c≠i2->s.heap.get? c=some o->h'.get? c=some o)->Q (some (.ref s.heap.objs.size)) {s with heap:=h'}):wpAny (model prog w) A (pyNext (.ref z)) Q E s:=by
 obtain⟨q,a1,a2,a3,a4,a5⟩:=a
 rcases q with ⟨e,a,b,f⟩ | ⟨T,bb,o,e,f,g⟩
 ·refine wpAny_pyNext_zip_item D e a1 f a2 a3 a4 a5 hx hy fun h' c1 c2 c3 c4 c5 _ kp=>hQ h' ⟨.inr ⟨_,_,_,c1,c5,rfl⟩,kp _ _ D.TIz D.TITO D.TIi1 D.TIi2 a1,c3,c4,a4.at fun o e=>kp _ o D.l1z D.l1TO D.l1i1 D.l1i2 e,a5.at fun o e=>kp _ o D.l2z D.l2TO D.l2i1 D.l2i2 e⟩ c5 kp
 ·have t1:T≠z:=by rintro rfl;rw[show s.heap.get? T=_ from e] at f;cases f;exact absurd (show Value.type "zip"=Value.type "tuple" from g) (by decide)
  have t2:T≠i1:=by rintro rfl;obtain⟨q,e,c,_⟩:=a2;rw[f] at e;cases e;rw[g] at c;exact absurd c (by decide)
  have t3:T≠i2:=by rintro rfl;obtain⟨q,e,c,_⟩:=a3;rw[f] at e;cases e;rw[g] at c;exact absurd c (by decide)
  exact jVv D e f a1 a2 a3 a4 a5 hx hy fun h' c1 c2 c3 c5 kp=>hQ h' ⟨.inr ⟨T,_,o,c1,kp _ _ t1 t2 t3 f,g⟩,kp _ _ D.TIz D.TIi1 D.TIi2 a1,c2,c3,a4.at fun o e=>kp _ o D.l1z D.l1i1 D.l1i2 e,a5.at fun o e=>kp _ o D.l2z D.l2i1 D.l2i2 e⟩ c5 fun c o n1 _ n2 n3 e=>kp c o n1 n2 n3 e
theorem qJl (hh:A.handled=none)(D:ZipApart z TI TO i1 i2 l1 l2)(a:ZSt s.heap z TI TO i1 i2 l1 l2 xs ys i)(hx:xs[i]? =none)(hQ:∀h',(∀c o,c≠z->c≠TO->c≠i1->c≠i2->s.heap.get? c=some o->h'.get? c=some o)->Q none {s with heap:=h'}):wpAny (model prog w) A (pyNext (.ref z)) Q E s:=by
 obtain⟨q,a1,a2,a3,a4,a5⟩:=a
 rcases q with ⟨e,a,b,f⟩ | ⟨T,bb,o,e,f,g⟩
 ·exact wpAny_pyNext_zip_end hh D e a1 f a2 a3 a4 a5 (.inl hx) fun h' kp=>hQ h' kp
 ·exact jXm hh D e f a1 a2 a4 hx fun h' kp=>hQ h' fun c o n1 _ n2 _ e=>kp c o n1 n2 e
end
theorem Vals.get' {xs:List V}{us:List Value}(h:Vals xs us){u:Value}(e:us[i]? =some u):∃x,xs[i]? =some x/\RelV x u:=by
 have hi:i<xs.length:=by have:=h.length;have:=(List.getElem?_eq_some_iff.mp e).1;omega
 obtain⟨u',e',r⟩:=L2.Vals.get h (List.getElem?_eq_getElem hi)
 rw[e] at e';cases e'
 exact⟨_,List.getElem?_eq_getElem hi,r⟩
def qQg (H:Hp)(vs ws:List V)(acc:Array Value)(i:Nat):Prop:=acc.size=i/\∀j v u,j<i->vs[j]? =some v->ws[j]? =some u->∃p,acc[j]? =some (.ref p)/\H p=some (.tup [v,u])
variable {X:Cx}{pins:List (Addr×Obj)}{σ:L2.St}{G:Gp}{xs ys:List Value}{vs ws:List V}
theorem qJm {R:Result->Shared->Prop}{TI TO:Addr}{res:Value}(hh:A.handled=none)(D:ZipApart z TI TO i1 i2 l1 l2)(sl1:S≠l1)(sl2:S≠l2)(sz:S≠z)(sTO:S≠TO)(s1:S≠i1)(s2:S≠i2)(rx:Vals vs xs)(ry:Vals ws ys)(hl:xs.length=ys.length)(hs:xs.length<=sizeLine){b0:Nat}(hb0:∀b∈[z,TO,i1,i2,S],b<b0):
  ∀(k i:Nat) (s:Shared) (H:Hp) (acc:Array Value) (c:Nat),xs.length-i=k->i<=xs.length->b0<=s.heap.objs.size->L2.Inv X pins σ H s->GRel X.K H G->(∀b∈[z,TO,i1,i2,S],FpOk X pins H b)->ZSt s.heap z TI TO i1 i2 l1 l2 xs.toArray ys.toArray i->
   s.heap.get? S=some {cls:= .type "list",dict:=none,data:= .seq acc c,slots:= #[]}->qQg H vs ws acc i->
   (∀s' H' acc' c',Ext H H'->L2.Inv X pins σ H' s'->GRel X.K H' G->s'.heap.get? S=some {cls:= .type "list",dict:=none,data:= .seq acc' c',slots:= #[]}->qQg H' vs ws acc' xs.length->R (.ok (.ret res)) s')->
   codeAny (model X.prog X.w) A (.builtin "list.extend.loop" ⟨[.ref S,.ref z,res],[]⟩) R s:=by
 intro k
 induction k with
 | zero=>
  intro i s H acc c hk hi hb I hg hf a hS ha hR
  (have hin:i=xs.length:=by omega)
  subst hin
  (refine codeAny_builtin PySem.F.entry_extend_loop ?_)
  (rw[Around.under_plainId PySem.F.plain_extend_loop _])
  refine (show wpAny _ A.in1 (pyNext (.ref z) >>= _) _ _ s from ?_)
  refine wpAny_bind (qJl (A:=A.in1) (by simpa using hh) D a (by simp) fun h' kp=>wpAny_pure ?_)
  have I':L2.Inv X pins σ H {s with heap:=h',toks:=s.toks}:=jXa (fp:=[z,TO,i1,i2,S]) I (fun b o hb e=>by
   simp only[List.mem_cons,List.not_mem_nil,or_false,not_or] at hb
   exact kp b o hb.1 hb.2.1 hb.2.2.1 hb.2.2.2.1 e) hf
  exact hR _ H acc c (.refl H) I' hg (kp _ _ sz sTO s1 s2 hS) ha
 | succ k ih=>
  intro i s H acc c hk hi hb I hg hf a hS ha hR
  (have hlt:i<xs.length:=by omega)
  obtain⟨v,hv,rv⟩:=Vals.get' rx (List.getElem?_eq_getElem hlt)
  obtain⟨u,hu,ru⟩:=Vals.get' ry (List.getElem?_eq_getElem (show i<ys.length by omega))
  (refine codeAny_builtin PySem.F.entry_extend_loop ?_)
  (rw[Around.under_plainId PySem.F.plain_extend_loop _])
  refine (show wpAny _ A.in1 (pyNext (.ref z) >>= _) _ _ s from ?_)
  refine wpAny_bind (kYf (A:=A.in1) D a (by simp[hlt];rfl) (by simp[show i<ys.length by omega];rfl) fun h' a' hp kp=> ?_)
  have fr:H s.heap.objs.size=none:=I.hok.fresh (Nat.le_refl _)
  have I1:=jV9 (t':=s.toks) (h':=h') (p:=s.heap.objs.size) (vs:=[v,u]) (us:=[xs[i],ys[i]'(by omega)]) (fp:=[z,TO,i1,i2,S]) I (fun b o hb e=>by
   simp only[List.mem_cons,List.not_mem_nil,or_false,not_or] at hb
   exact kp b o hb.1 hb.2.1 hb.2.2.1 hb.2.2.2.1 e) hf (Nat.le_refl _) ⟨_,hp,rfl,_,rfl,rfl⟩ (.cons rv (.cons ru .nil)) (by show 2<=sizeLine;decide)
  have ext:Ext H (upd H s.heap.objs.size (.tup [v,u])):= .upd (.none fr)
  have hS':=kp _ _ sz sTO s1 s2 hS
  have hpS:s.heap.objs.size≠S:=Nat.ne_of_gt (Heap.lt_size hS)
  have hlt':∀b∈[z,TO,i1,i2,S],b≠s.heap.objs.size:=fun b hb'=>Nat.ne_of_lt (Nat.lt_of_lt_of_le (hb0 b hb') hb)
  have hf':∀b∈[z,TO,i1,i2,S],FpOk X pins (upd H s.heap.objs.size (.tup [v,u])) b:=fun b hb=>by
   obtain⟨q,r⟩:=hf b hb
   exact⟨by rw[jJk (hlt' b hb)];exact q,r⟩
  refine (show wpAny _ A.in1 (updateSeq S (·.push (.ref s.heap.objs.size)) >>= _) _ _ _ from ?_)
  refine wpAny_bind ?_
  have kp2:∀b o,b≠S->h'.get? b=some o->(h'.update S (Obj.mapSeq (·.push (Value.ref s.heap.objs.size)))).get? b=some o:=fun b o hb e=>(Heap.get?_update_other _ _ (Ne.symm hb)).trans e
  refine wpAny_updateSeq (s:={s with heap:=h'}) hS' rfl (wpAny_pure ⟨plainId_quiet PySem.F.plain_extend_loop _,ih (i+1) _ _ (acc.push (.ref s.heap.objs.size)) _ (by omega) hlt (Nat.le_of_lt (Nat.lt_of_le_of_lt hb (Heap.lt_size (kp2 _ _ hpS hp))))
   (jXa (t':=s.toks) (fp:=[z,TO,i1,i2,S]) I1 (fun b o hb e=>kp2 b o (fun q=>hb (by simp[q])) e) hf') (hg.tupNew fr) hf' (a'.moved D hS' sl1 sl2 kp2) (Heap.get?_update_self _ hS' rfl) ?_ fun s'' H'' acc' c' ex I'' g'' hS'' ha'=> ?_⟩) (by rw[ha.1];omega) (by show (acc.push _).size<=sizeLine+1;rw[Array.size_push,ha.1];omega)
  ·refine⟨by rw[Array.size_push,ha.1],fun j v' u' hj h1 h2=> ?_⟩
   rw[Array.getElem?_push]
   by_cases e:j=i
   ·subst e
    rw[hv] at h1;rw[hu] at h2;cases h1;cases h2
    rw[if_pos ha.1.symm]
    exact⟨_,rfl,jJn⟩
   ·rw[if_neg (by rw[ha.1];exact e)]
    obtain⟨p,q1,q2⟩:=ha.2 j v' u' (by omega) h1 h2
    exact⟨p,q1,ext.tup _ _ q2⟩
  ·exact hR s'' H'' acc' c' (ext.trans ex) I'' g'' hS'' ha'
theorem kYk {a:Addr}{f g:Obj->Obj}:∀b o,b≠a->h.get? b=some o->((h.update a f).update a g).get? b=some o:=fun b o n q=>by
 rw[Heap.get?_update_other _ _ n.symm,Heap.get?_update_other _ _ n.symm];exact q
theorem kYl {Q:Unit->Shared->Prop}(hS:s.heap.get? S=some {cls:= .type "list",dict:=none,data:= .seq #[] c,slots:= #[]})(k:∀h' c',h'.get? S=some {cls:= .type "list",dict:=none,data:= .seq #[] c',slots:= #[]}->(∀b o,b≠S->s.heap.get? b=some o->h'.get? b=some o)->Q () {s with heap:=h'}):wpAny (model prog w) A (Builtin.List.listTouch (.ref S)) Q E s:=
 wpAny_bind (wpAny_updateSeq hS rfl (wpAny_updateSeq (Heap.get?_update_self _ hS rfl) rfl (k _ _ (Heap.get?_update_self _ (Heap.get?_update_self _ hS rfl) rfl) kYk)))
theorem kKw {H:Hp}{TI TO:Addr}{Q:List Value->Shared->Prop}(hh:A.handled=none)(D:ZipApart z TI TO i1 i2 l1 l2)(rx:Vals vs xs)(ry:Vals ws ys)(hl:xs.length=ys.length)(hs:xs.length<=sizeLine)(hlt:∀b∈[z,TO,i1,i2,l1,l2],b<s.heap.objs.size)(I:L2.Inv X pins σ H s)(hg:GRel X.K H G)(hf:∀b∈[z,TO,i1,i2],FpOk X pins H b)(a:ZSt s.heap z TI TO i1 i2 l1 l2 xs.toArray ys.toArray 0)(hz:IsZip s.heap z TI TO .none)(hQ:∀s' H' acc,Ext H H'->L2.Inv X pins σ H' s'->GRel X.K H' G->qQg H' vs ws acc xs.length->Q acc.toList s'):wpAny (model X.prog X.w) A (collect (.ref z)) Q E s:=by
 have nS:∀b∈[z,TO,i1,i2,l1,l2],s.heap.objs.size≠b:=fun b hb=>Nat.ne_of_gt (hlt b hb)
 unfold collect
 refine wpAny_bind (wpAny_runValue (codeAny_builtin PySem.F.entry_proto_collect ?_))
 (rw[Around.under_plainId PySem.F.plain_proto_collect _])
 refine (show wpAny _ A.in1 (newList [] >>= fun l=>again (.builtin "list.__iadd__" ⟨[l,.ref z],[]⟩)) _ _ s from wpAny_bind (wpAny_newObj_type (wpAny_pure ⟨plainId_quiet PySem.F.plain_list_iadd _,codeAny_builtin PySem.F.entry_list_iadd ?_⟩)))
 (rw[Around.under_plainId PySem.F.plain_list_iadd _])
 have hS:(s.heap.push {cls:= .type "list",data:= .seq ([]:List Value).toArray}).get? s.heap.objs.size=some {cls:= .type "list",data:= .seq ([]:List Value).toArray}:=Heap.get?_push_size _ rfl
 have up:∀b o,s.heap.get? b=some o->(s.heap.push {cls:= .type "list",data:= .seq ([]:List Value).toArray}).get? b=some o:=fun b o e=>Heap.get?_push_of_some _ e
 have a1:ZSt (s.heap.push {cls:= .type "list",data:= .seq ([]:List Value).toArray}) z TI TO i1 i2 l1 l2 xs.toArray ys.toArray 0:=by
  obtain⟨q,a1,a2,a3,a4,a5⟩:=a
  refine⟨?_,up _ _ a1,a2.at fun o e=>up _ o e,a3.at fun o e=>up _ o e,a4.at fun o e=>up _ o e,a5.at fun o e=>up _ o e⟩
  rcases q with ⟨e,a,b,f⟩ | ⟨T,bb,o,e,f,g⟩
  ·exact .inl ⟨up _ _ e,a,b,up _ _ f⟩
  ·exact .inr ⟨T,bb,o,up _ _ e,up _ _ f,g⟩
 have I1:L2.Inv X pins σ H {s with heap:=s.heap.push {cls:= .type "list",data:= .seq ([]:List Value).toArray} }:=I.kept (t':=s.toks) up
 have tz:Shared.TypeIs {s with heap:=s.heap.push {cls:= .type "list",data:= .seq ([]:List Value).toArray} } (.ref z) "zip":=ZSt.ty (s:={s with heap:=s.heap.push {cls:= .type "list",data:= .seq ([]:List Value).toArray} }) a1
 refine (show wpAny _ A.in1 (Builtin.List.listExtendWith (.ref s.heap.objs.size) (.ref z) (.ref s.heap.objs.size)) _ _ _ from ?_)
 (unfold Builtin.List.listExtendWith)
 refine wpAny_bind (wpAny_typeOf tz ?_)
 have h1:Builtin.List.listSameRef (.ref s.heap.objs.size) (.ref z)=false:=by simp[Builtin.List.listSameRef,nS z (by simp)]
 have h2:(Value.type "zip" == Value.type "list")=false:=by decide
 have h3:(Value.type "zip" == Value.type "tuple")=false:=by decide
 (simp only[h1,h2,h3,Bool.or_false,Bool.false_eq_true,if_false])
 refine wpAny_bind (wpAny_pyIter_zip (s:={s with heap:=s.heap.push {cls:= .type "list",data:= .seq ([]:List Value).toArray} }) (up _ _ hz) ?_)
 (refine wpAny_bind (wpAny_holding ?_))
 (unfold Builtin.List.listLengthHint)
 refine wpAny_bind (wpAny_specialOf tz kUt ?_)
 refine (show wpAny _ A.in1 (specialOf (Value.ref z) (Str.ofString "__length_hint__") >>= _) _ _ _ from ?_)
 refine wpAny_bind (wpAny_specialOf tz kQy ?_)
 refine wpAny_pure ?_
 refine (show wpAny _ A.in1 (rule "list.extend.makes-room" >>= fun _=>Builtin.List.listTouch (.ref s.heap.objs.size) >>= fun _=>
  again (.builtin "list.extend.loop" ⟨[.ref s.heap.objs.size,.ref z,.ref s.heap.objs.size],[]⟩)) _ _ _ from ?_)
 refine wpAny_bind (wpAny_rule ?_)
 refine wpAny_bind (kYl hS fun h9 c9 hS₃ oth=> ?_)
 have hf':∀b∈[z,TO,i1,i2,s.heap.objs.size],FpOk X pins H b:=fun b hb=>by
  by_cases e:b=s.heap.objs.size
  ·subst e;exact I.fpOk (Nat.le_refl _) (I.hok.fresh (Nat.le_refl _))
  ·simp only[List.mem_cons,List.not_mem_nil,or_false] at hb
   rcases hb with h | h | h | h | h
   ·exact hf b (by simp[h])
   ·exact hf b (by simp[h])
   ·exact hf b (by simp[h])
   ·exact hf b (by simp[h])
   ·exact absurd h e
 have I9:=jXa (h':=h9) (t':=s.toks) (fp:=[z,TO,i1,i2,s.heap.objs.size]) I1 (fun b o hb e=>oth b o (fun q=>hb (by simp[q])) e) hf'
 refine wpAny_pure ⟨plainId_quiet PySem.F.plain_extend_loop _,qJm (X:=X) (pins:=pins) (σ:=σ) (G:=G) (A:=A) (S:=s.heap.objs.size) (b0:=s.heap.objs.size+1) hh D (nS l1 (by simp)) (nS l2 (by simp)) (nS z (by simp)) (nS TO (by simp)) (nS i1 (by simp)) (nS i2 (by simp)) rx ry hl hs (fun b hb=> ?_) xs.length 0 _ H _ _ rfl (Nat.zero_le _) (Heap.lt_size hS₃) I9 hg hf'
  (a1.moved D hS (nS l1 (by simp)) (nS l2 (by simp)) oth) hS₃ ⟨rfl,fun j v u hj=>absurd hj (Nat.not_lt_zero _)⟩ fun s' H' acc' c' ex I' g' hS' ha=> ?_⟩
 ·simp only[List.mem_cons,List.not_mem_nil,or_false] at hb
  rcases hb with h | h | h | h | h
  ·rw[h];exact Nat.lt_succ_of_lt (hlt z (by simp))
  ·rw[h];exact Nat.lt_succ_of_lt (hlt TO (by simp))
  ·rw[h];exact Nat.lt_succ_of_lt (hlt i1 (by simp))
  ·rw[h];exact Nat.lt_succ_of_lt (hlt i2 (by simp))
  ·rw[h];exact Nat.lt_succ_self _
 ·refine (show wpAny _ A (load s.heap.objs.size >>= _) _ _ s' from ?_)
  exact wpAny_bind (wpAny_load hS' (wpAny_pure (hQ s' H' acc' ex I' g' ha)))
theorem kQw {H:Hp}:∀ {vs ws:List V} {acc:List Value},vs.length=ws.length->acc.length=vs.length->(∀(j:Nat) (v u:V),vs[j]? =some v->ws[j]? =some u->∃p,acc[j]? =some (.ref p)/\H p=some (.tup [v,u]))->
  ∃ps:List Addr,acc=ps.map Value.ref/\Paired (fun (q:V×V) p=>H p=some (.tup [q.1,q.2])) (vs.zip ws) ps
 | [],[],[],_,_,_=>⟨[],rfl,.nil⟩
 | v::vs,u::ws,a::acc,h1,h2,h=>by
  obtain⟨p,e,q⟩:=h 0 v u rfl rfl
  cases e
  obtain⟨ps,e1,e2⟩:=kQw (H:=H) (vs:=vs) (ws:=ws) (acc:=acc) (by simpa using h1) (by simpa using h2) fun j v u a b=>by simpa using h (j+1) v u a b
  exact⟨p::ps,by rw[e1];rfl,.cons q e2⟩
theorem kK6 {K:PySem.W.Frag} {H:Hp}:∀ {xs ys:List T} {vs ws:List V} {ps:List Addr},Reps K H xs vs->Reps K H ys ws->vs.length=ws.length->Paired (fun (q:V×V) p=>H p=some (.tup [q.1,q.2])) (vs.zip ws) ps->Reps K H (zipT xs ys) (ps.map V.ref)
 | [],_,_,_,ps,r1,r2,hl,h=>by
  cases (show _=[] from r1)
  cases h;rfl
 | x::xs,[],_,_,ps,⟨v,vs',e,_,_⟩,r2,hl,h=>by subst e;cases (show _=[] from r2);simp at hl
 | x::xs,y::ys,_,_,ps,⟨v,vs',e,r,rs⟩,⟨u,ws',e',r',rs'⟩,hl,h=>by
  subst e;subst e'
  cases h with
  | cons q t=>exact⟨.ref _,_,rfl,⟨_,_,rfl,q,v,_,rfl,r,u,_,rfl,r',rfl⟩,kK6 rs rs' (by simpa using hl) t⟩
theorem kUv:∀(ps:List Addr),Vals (ps.map V.ref) (ps.map Value.ref)
 | []=> .nil
 | p::ps=> .cons rfl (kUv ps)
def qJq (ta:TA3):TE3:=fun τ G Q=>ta τ G fun vs G1=>∃(x y:T) (xs ys:List T),vs=[x,y]/\jVk G1 x=some xs/\jVk G1 y=some ys/\xs.length=ys.length/\Q (.tup (zipT xs ys)) G1
theorem e_tzip {pos pos' p p':Pos}{a b:Expr}{ta:TA3}(hc:X.calm=true)(hl:Gl X "tuple")(hlm:X.mg "tuple"=none)(hg:Gl X "zip")(hm:X.mg "zip"=none)(hv:bootBuiltins "zip"=some (.type "zip"))(ha:PA3 X [a,b] ta)(hs:starEach [a,b] X.env=[(false,eval a X.env),(false,eval b X.env)]:=by rfl)(hs2:starEach [b] X.env=[(false,eval b X.env)]:=by rfl)(hs':starEach [Expr.Call (.Name "zip" p) [a,b] [] pos] X.env=[(false,eval (.Call (.Name "zip" p) [a,b] [] pos) X.env)]:=by rfl):
  PE3 X (.Call (.Name "tuple" p') [.Call (.Name "zip" p) [a,b] [] pos] [] pos') (qJq ta):=by
 intro pins s τ G H Q I h
 obtain⟨σ0,I0,_,_⟩:=id I
 refine Call_ (jUf I0 hl hlm rfl (PyProof.Rows.callWith_type1 ?_ hs' rfl))
 rw[hs']
 refine Calls.spliced_cons (Call_ (jUf I0 hg hm hv (PyProof.Rows.callWith_type1 (thn (ha pos pins s τ G H _ I h) fun us s1 w_=>w_.el fun xs' G1 H1 e1 i_ r_ q1=>i_.el fun σ I1 hs1 hg1=>r_.el fun as ras rvs=> ?_) (by rw[hs,hs2]) (by rw[hs2];rfl))))
 obtain⟨x,y,xs,ys,e,hx,hy,hle,q⟩:=q1
 subst e
 obtain⟨v,w,rfl,rv,rw'⟩:=kVd ras
 obtain⟨u,u',rfl,ru,ru'⟩:=rvs.two
 obtain⟨pa,vs,rfl,hq1,r1⟩:=jQr hg1 rv hx
 obtain⟨pb,ws,rfl,hq2,r2⟩:=jQr hg1 rw' hy
 cases ru;cases ru'
 obtain⟨its1,rv1,p1,hz1⟩:=I1.list hq1
 obtain⟨its2,rv2,p2,hz2⟩:=I1.list hq2
 have l1:=r1.length
 have l2:=r2.length
 have l3:=rv1.length
 have l4:=rv2.length
 have hal:pa<s1.heap.objs.size:=by obtain⟨o,ho,_⟩:=p1.isList;exact Heap.lt_size ho
 have hbl:pb<s1.heap.objs.size:=by obtain⟨o,ho,_⟩:=p2.isList;exact Heap.lt_size ho
 refine call_zip_2 p1.isList p2.isList fun g hz hTI hTO hi1 hi2 hsz hk=> ?_
 have D:ZipApart (s1.heap.objs.size+4) (s1.heap.objs.size+2) (s1.heap.objs.size+3) s1.heap.objs.size (s1.heap.objs.size+1) pa pb:=zapart hal hbl
 have I2:L2.Inv X pins σ H1 {s1 with heap:=g}:=I1.kept (t':=s1.toks) hk
 refine Calls.spliced_nil ?_
 have hZ:ZSt g (s1.heap.objs.size+4) (s1.heap.objs.size+2) (s1.heap.objs.size+3) s1.heap.objs.size (s1.heap.objs.size+1) pa pb its1.toArray its2.toArray 0:=⟨.inl ⟨hz,_,_,hTO⟩,hTI,hi1,hi2,p1.isList.at fun o e=>hk _ o e,p2.isList.at fun o e=>hk _ o e⟩
 have hTz:Shared.TypeIs {s1 with heap:=g} (.ref (s1.heap.objs.size+4)) "zip":=⟨_,hz,rfl⟩
 refine callType_codes (Q₁:=fun obj z=>z.TypeIs obj "tuple"/\EP3 X pins τ H Q obj z) F.called_tuple (F.typeCall_tuple_1 _) F.entry_object_init (codeAny_of_tree ?_) fun obj z hz=>⟨hz.1,F.args_object_init_2 obj _,object_init_meets F.called_tuple.init.lookup F.called_tuple.made (by decide) X.prog X.w X.A.in1 _ z ⟨hz.1,rfl,hz.2⟩⟩
 refine (show wpAny _ X.A.in1.in1 (do checkBuiltinCall "tuple.__new__" ⟨[.type "tuple",.ref (s1.heap.objs.size+4)],[]⟩;again (.builtin "tuple.__new__" ⟨[.type "tuple",.ref (s1.heap.objs.size+4)],[]⟩)) _ _ _ from wpAny_bind (wpAny_of_eq (F.newCall_tuple_1 _) (wpAny_pure ⟨plainId_quiet F.plain_tuple_new _,codeAny_builtin F.entry_tuple_new ?_⟩)))
 rw[Around.under_plainId F.plain_tuple_new _];have h1:=sub_tuple_self
 have h2:=init_tuple_lookup
 have h3:=madeHere_tuple
 have hlt:∀b∈[s1.heap.objs.size+4,s1.heap.objs.size+3,s1.heap.objs.size,s1.heap.objs.size+1,pa,pb],b<({s1 with heap:=g}:Shared).heap.objs.size:=fun b hb=>by
  (simp only[List.mem_cons,List.not_mem_nil,or_false] at hb)
  show b<g.objs.size
  rw[hsz]
  rcases hb with h | h | h | h | h | h
  ·rw[h];omega
  ·rw[h];omega
  ·rw[h];omega
  ·rw[h];omega
  ·rw[h];exact Nat.lt_add_right 5 hal
  ·rw[h];exact Nat.lt_add_right 5 hbl
 have hff:∀b∈[s1.heap.objs.size+4,s1.heap.objs.size+3,s1.heap.objs.size,s1.heap.objs.size+1],FpOk X pins H1 b:=fun b hb=>by
  (simp only[List.mem_cons,List.not_mem_nil,or_false] at hb)
  have hle:s1.heap.objs.size<=b:=by omega
  exact I1.fpOk hle (I1.hok.fresh hle)
 wp_walk using wpAny_typeOf hTz,kKw (A:=X.A.in1.in1) (I1.ok.hd hc) D rv1 rv2 (by omega) (by omega) hlt I2 hg1 hff hZ hz
 intro s' H' acc ex I' g' ha
 refine (show wpAny _ _ (Builtin.Tuple.tupleExact acc.toList.toArray >>= fun x=>ret x) _ _ _ from ?_)
 unfold Builtin.Tuple.tupleExact;refine wpAny_bind (wpAny_newObj_type (wpAny_pure ?_) (by show acc.toList.toArray.size<=sizeLine;simp only[Array.toArray_toList];rw[ha.1];omega))
 obtain⟨ps,ea,pr⟩:=kQw (H:=H') (vs:=vs) (ws:=ws) (acc:=acc.toList) (by omega) (by rw[Array.length_toList,ha.1];omega) fun j v u a b=>by
  obtain⟨p,q1,q2⟩:=ha.2 j v u (by have:=(List.getElem?_eq_some_iff.mp a).1;omega) a b
  exact⟨p,by rw[Array.getElem?_toList];exact q1,q2⟩
 have pl:ps.length=vs.length:=by have:=congrArg List.length ea;rw[Array.length_toList,ha.1,List.length_map] at this;omega
 have fr:H' s'.heap.objs.size=none:=I'.hok.fresh (Nat.le_refl _)
 have ext:Ext H' (upd H' s'.heap.objs.size (.tup (ps.map V.ref))):= .upd (.none fr)
 have I3:=I'.laid (a:=s'.heap.objs.size) (o:= .tup (ps.map V.ref)) (h':=s'.heap.push {cls:= .type "tuple",data:= .seq acc.toList.toArray}) (t':=s'.toks) (fun b o e=>Heap.get?_push_of_some _ e) (Nat.le_refl _) ⟨by rw[List.length_map];omega,ps.map Value.ref,kUv ps,by rw[ea];exact TupD.new _ _⟩
 refine⟨⟨_,Heap.get?_push_size _ rfl,rfl⟩,.tup (zipT xs ys),G1,_,(e1.trans ex).trans ext,⟨σ,I3,(hs1.mono ex).mono ext,g'.tupNew fr⟩,⟨.ref s'.heap.objs.size,Rep.tupNew (kK6 (Reps.mono ex _ r1) (Reps.mono ex _ r2) (by omega) pr) fr,rfl⟩,q⟩
end L3
namespace L3
open PySem PySem.Spec PyProof.Rows L2
variable {X:Cx}{pos:Pos}
noncomputable def kU3 (ta1 tb1 ta2 tb2 ta3 tb3 ta4 tb4:TE3):TE3:=fun τ G Q=>∀p,G p=none->ta1 τ (gup G p (.dck [])) fun x1 G1=>tb1 τ G1 fun y1 G2=>ta2 τ G2 fun x2 G3=>tb2 τ G3 fun y2 G4=>ta3 τ G4 fun x3 G5=>tb3 τ G5 fun y3 G6=>ta4 τ G6 fun x4 G7=>tb4 τ G7 fun y4 G8=> 
 ∃k1 k2 k3 k4,jQu x1=some k1/\jQu x2=some k2/\jQu x3=some k3/\jQu x4=some k4/\G8 p=some (.dck [])/\Q (.ref p) (gup G8 p (.dck (putT (putT (putT (putT [] k1 y1) k2 y2) k3 y3) k4 y4)))
theorem qK3 {p1 r1 p2 r2 p3 r3 p4 r4:Expr}{ta1 tb1 ta2 tb2 ta3 tb3 ta4 tb4:TE3}(ha1:PE3 X p1 ta1)(hb1:PE3 X r1 tb1)(ha2:PE3 X p2 ta2)(hb2:PE3 X r2 tb2)(ha3:PE3 X p3 ta3)(hb3:PE3 X r3 tb3)(ha4:PE3 X p4 ta4)(hb4:PE3 X r4 tb4):PE3 X (.Dict [some p1,some p2,some p3,some p4] [r1,r2,r3,r4] pos) (kU3 ta1 tb1 ta2 tb2 ta3 tb3 ta4 tb4):=by
 rintro pins s τ G H Q ⟨σ,I,hs,hg⟩ h
 have hn:=I.hok.fresh (Nat.le_refl s.heap.objs.size)
 have I1:=I.laid (a:=s.heap.objs.size) (o:= .dK []) (h':=s.heap.push {cls:= .type "dict",data:= .dict #[]}) (t':=s.toks) (fun _ _ q=>Heap.get?_push_of_some _ q) (Nat.le_refl _) (jZi s.heap I.big)
 have I3:Inv3 X pins τ (gup G s.heap.objs.size (.dck [])) (upd H s.heap.objs.size (.dK [])) {s with heap:=s.heap.push {cls:= .type "dict",data:= .dict #[]},toks:=s.toks}:=
  ⟨σ,I1,hs.mono (.upd (.none hn)),hg.upd (.none hn) (go:= .dck []) ⟨[],jJn,.nil⟩⟩
 refine wpAny_Dict_walk (knd:=jJ7 X.prog X.w) rfl rfl (by simp) (by simp) (pairTrees_cons_walk (thn (ha1 pins _ τ _ _ _ I3 (h _ (hg.fresh hn))) fun u1 s1 w_=>w_.el fun x1 G1 H1 e1 J1 ru1 q1=>thn (hb1 pins s1 τ G1 H1 _ J1 q1) fun v1 s2 w_=>w_.el fun y1 G2 H2 e2 J2 rv1 q2=>pairTrees_cons_walk (thn (ha2 pins s2 τ G2 H2 _ J2 q2) fun u2 s3 w_=>w_.el fun x2 G3 H3 e3 J3 ru2 q3=>thn (hb2 pins s3 τ G3 H3 _ J3 q3) fun v2 s4 w_=>w_.el fun y2 G4 H4 e4 J4 rv2 q4=>pairTrees_cons_walk (thn (ha3 pins s4 τ G4 H4 _ J4 q4) fun u3 s5 w_=>w_.el fun x3 G5 H5 e5 J5 ru3 q5=>thn (hb3 pins s5 τ G5 H5 _ J5 q5) fun v3 s6 w_=>w_.el fun y3 G6 H6 e6 J6 rv3 q6=>pairTrees_cons_walk (thn (ha4 pins s6 τ G6 H6 _ J6 q6) fun u4 s7 w_=>w_.el fun x4 G7 H7 e7 J7 ru4 q7=>thn (hb4 pins s7 τ G7 H7 _ J7 q7) fun v4 s8 w_=>w_.el fun y4 G8 H8 e8 i_ rv4 q8=>i_.el fun σ6 J8 hs6 hg6=>pairTrees_nil_walk ?_)))))
 obtain⟨k1,k2,k3,k4,hk1,hk2,hk3,hk4,hd6,q⟩:=q8
 obtain⟨ws,hH6,pk⟩:=(show ∃ws,H8 s.heap.objs.size=some (.dK ws)/\PKV X.K H8 [] ws from hg6 _ _ hd6)
 cases pk
 obtain⟨a1,ra1,rw1⟩:=ru1.mono ((((((e2.trans e3).trans e4).trans e5).trans e6).trans e7).trans e8)
 obtain⟨c1,rc1,rx1⟩:=rv1.mono (((((e3.trans e4).trans e5).trans e6).trans e7).trans e8)
 obtain⟨a2,ra2,rw2⟩:=ru2.mono ((((e4.trans e5).trans e6).trans e7).trans e8)
 obtain⟨c2,rc2,rx2⟩:=rv2.mono (((e5.trans e6).trans e7).trans e8)
 obtain⟨a3,ra3,rw3⟩:=ru3.mono ((e6.trans e7).trans e8)
 obtain⟨c3,rc3,rx3⟩:=rv3.mono (e7.trans e8)
 obtain⟨a4,ra4,rw4⟩:=ru4.mono e8
 obtain⟨c4,rc4,rx4⟩:=rv4
 obtain rfl:=jKl hk1 ra1
 obtain rfl:=jKl hk2 ra2
 obtain rfl:=jKl hk3 ra3
 obtain rfl:=jKl hk4 ra4
 obtain⟨rs,cr,rk⟩:=jVn (P:=X.prog) (w:=X.w) (kvs:=[(k1,c1),(k2,c2),(k3,c3),(k4,c4)]) (ws:=[(u1,v1),(u2,v2),(u3,v3),(u4,v4)]) (.cons ⟨rw1,rx1⟩ (.cons ⟨rw2,rx2⟩ (.cons ⟨rw3,rx3⟩ (.cons ⟨rw4,rx4⟩ .nil))))
 obtain⟨z,hdd,vs0,r0,dd⟩:=kZw J8.hok hH6
 cases r0
 refine⟨rs,cr,dd,fun h' dd' hsb=> ?_⟩
 have hq:∃q,h'.get? s.heap.objs.size=some q:=let ⟨q,_,_,hq,_⟩:=dd';⟨q,hq⟩
 have ln:=jU5 [(k1,c1),(k2,c2),(k3,c3),(k4,c4)] []
 have JJ:=jZj (t':=s8.toks+[(u1,v1),(u2,v2),(u3,v3),(u4,v4)].length) J8 (by rw[hH6];exact True.intro) hsb hq (kXt (kvs:=jYm [] [(k1,c1),(k2,c2),(k3,c3),(k4,c4)]) (by rw[sizeLine_eq];simp at ln;omega) hdd (rk.merge .nil) dd')
 have ext:Ext H8 (upd H8 s.heap.objs.size (.dK (jYm [] [(k1,c1),(k2,c2),(k3,c3),(k4,c4)]))):= .upd (.dK hH6)
 have pk:PKV X.K H8 (putT (putT (putT (putT [] k1 y1) k2 y2) k3 y3) k4 y4) (jYm [] [(k1,c1),(k2,c2),(k3,c3),(k4,c4)]):=PKV.put (PKV.put (PKV.put (PKV.put (kvs:=[]) .nil k1 rc1) k2 rc2) k3 rc3) k4 rc4
 exact⟨.ref s.heap.objs.size,_,_,((((((((Ext.upd (.none hn)).trans e1).trans e2).trans e3).trans e4).trans e5).trans e6).trans e7).trans (e8.trans ext),⟨σ6,JJ,hs6.mono ext,hg6.upd (.dK hH6) (go:= .dck (putT (putT (putT (putT [] k1 y1) k2 y2) k3 y3) k4 y4)) ⟨_,jJn,pk.mono ext⟩⟩,⟨.ref _,rfl,rfl⟩,q⟩
noncomputable def kKb:T->List T->Gp->VK3->Prop:=fun x as G Q=>∃p q xs ys,x= .ref p/\as=[.ref q]/\G p=some (.lst xs)/\G q=some (.lst ys)/\xs.length+ys.length<=sizeLine/\Q .non (gup G p (.lst (xs++ys)))
theorem kQg:Mt3 X "list.extend" kKb:=by
 rintro pins s τ G H x as v us Q ⟨σ,I,hs,hg⟩ ⟨a,ra,rv⟩ ⟨bs,rbs,rus⟩ ⟨p,q,xs,ys,ex,ea,hp,hq,hz,k⟩
 subst ex;subst ea
 cases (show a= .ref p from ra);cases rv
 obtain⟨b1,rfl,r1⟩:=jVr rbs
 cases (show b1= .ref q from r1)
 obtain⟨u1,rfl,ru1⟩:=rus.one
 cases ru1
 obtain⟨vs,h1,h2⟩:=hg.lst hp
 obtain⟨ws,h3,h4⟩:=hg.lst hq
 obtain⟨z,its,n,r,hl,e⟩:=I.lstM h1
 obtain⟨z',its',n',r',hl',e'⟩:=I.lstM h3
 have hlen:=h2.length
 have hlen':=h4.length
 have q1:=r.length
 have q2:=r'.length
 have hc:¬(!its.toArray.isEmpty&&Builtin.List.listTooLong (its.toArray.size+its'.toArray.size))=true:=by
  have:Builtin.List.listTooLong (its.toArray.size+its'.toArray.size)=false:=by
   unfold Builtin.List.listTooLong
   (rw[List.size_toArray,List.size_toArray])
   exact decide_eq_false (by omega)
  rw[this,Bool.and_false];exact Bool.false_ne_true
 refine call_meets F.slot_list_extend ⟨_,e,rfl⟩ F.entry_list_extend (F.args_list_extend_2 _ _) (AutoSeq1.list_extend_list_list_0 p its.toArray n q its'.toArray n' hc (by rw[List.size_toArray];omega) (by rw[List.size_toArray,List.size_toArray];omega)) ⟨e,e',?_⟩
 have e2:Ext H (upd H p (.lst (vs++ws))):= .upd (.lst h1)
 refine⟨.non,_,_,e2,⟨σ,I.lset (its':=its++its') h1 e ?_ (r.append r') ?_,hs.mono e2,hg.lstNew (xs:=xs++ys) (h2.append h4) (.lst h1)⟩,⟨.non,rfl,rfl⟩,k⟩
 ·simp
 ·rw[List.length_append];omega
section
variable {A:Around}{E:Value->Shared->Prop}{s:Shared}{M:Model}
end
variable {scope:Scope}{mask:List Bool}
section
variable {cl:List (Str×Addr)}
end
section
variable {cl:List (Str×Addr)}{elt iter tg:Expr}{ifs:List Expr}{wi:TI3}{g:TG3}{tif:TT3}{te:TE3}
end
def jZz:T->List T->Gp->VK3->Prop:=fun x as G Q=>∃p kvs y k z,x= .ref p/\as=[y,z]/\G p=some (.dck kvs)/\jQu y=some k/\Q ((valT kvs k).getD z) G
theorem qJe:Mt3 X "dict.get" jZz:=by
 rintro pins s τ G H x as v us Q ⟨σ,I,hs,hg⟩ ⟨a,ra,rv⟩ ⟨bs,rbs,rus⟩ ⟨p,kvs,y,k,zz,ex,ea,hG,hk,q⟩
 subst ex;subst ea
 cases (show a= .ref p from ra);cases rv
 obtain⟨b,bz,rfl,rb,rz⟩:=kVd rbs
 obtain⟨u1,uz,rfl,ru1,ruz⟩:=rus.two
 obtain rfl:=jKl hk rb
 obtain⟨ws,h1,h2⟩:=(show ∃ws,H p=some (.dK ws)/\PKV X.K H kvs ws from hg p _ hG)
 obtain⟨z0,hd,vs,rel,dd⟩:=kZw I.hok h1
 have ro:=rel.val k
 obtain⟨g1,g2⟩:=h2.val k
 refine call_meetsIn PySem.F.slot_dict_get dd.typeIs PySem.F.entry_dict_get (PySem.F.args_dict_get_3 _ _ _) (meets_dict_get_default (jJ7 X.prog X.w) p (jZc ru1) hd uz) ⟨valueAt vs,dd.mapOf,?_⟩
 cases ev:valV ws k with
 | none=>
  rw[ev] at ro g2
  have en:valT kvs k=none:=by
   cases et:valT kvs k with
   | none=>rfl
   | some t=>rw[et] at g2;cases g2
  rw[en] at q
  cases ea:valueAt vs k with
  | some w=>rw[ea] at ro;exact (show False from ro).elim
  | none=>exact⟨zz,G,H,.refl H,⟨σ,I.tok _,hs,hg⟩,⟨bz,rz,ruz⟩,q⟩
 | some wv=>
  rw[ev] at ro g2
  obtain⟨t,ht⟩:=Option.isSome_iff_exists.mp (g2.trans rfl)
  obtain⟨wv',e',rt⟩:=g1 t ht
  rw[ev] at e';cases e'
  rw[ht] at q
  cases ea:valueAt vs k with
  | none=>rw[ea] at ro;exact (show False from ro).elim
  | some w=>
   rw[ea] at ro
   exact⟨t,G,H,.refl H,⟨σ,I.tok _,hs,hg⟩,⟨wv,rt,ro⟩,q⟩
end L3
namespace L3
open PySem PySem.Spec PyProof.Rows L2 PySem.W
variable {A:Around}{E:Value->Shared->Prop}{s:Shared}{C N:Addr}{bm:List Value}{hdct:Bool}{sn:List Str}{col:Option Bool}{dd:Option Addr}{k0 k1 k2 k3 k5:Option Value}{newId:String}{q:Str}
section
variable {env:Env}{M:Model}
variable {bs:List Value}{sub:List Value}{ab:Bool}{nm:Str}
theorem kQ8 {x:Sem Value}{Q:Flow->Shared->Prop}(hbase:bm.contains (.type "BaseException")=true)(hh:A.handled=none)(h:wpAny M A x (fun v s₁=>∃e t dx,v= .ref e/\s₁.heap.get? C=some (excClassObj nm q C N bs bm hdct sn sub ab col dd k0 k1 k2 k3 k5 newId)/\
   s₁.heap.get? e=some {cls:= .ref C,dict:=dx,data:= .fields #[.ref t,.none,.none,.none,.bool false,.none]}/\E (.ref e) s₁) E s):wpAny M A (raiseStmt env (some x) none) Q E s:=by
 (have hcB:(Value.ref C::bm).contains (.type "BaseException")=true:=by rw[List.contains_cons,hbase,Bool.or_true])
 unfold raiseStmt
 (refine wpAny_bind (wpAny_mono h (fun v s₁ h₁=> ?_) fun _ _ x=>x))
 obtain⟨e,t,dx,rfl,hC,he,hE⟩:=h₁
 (obtain⟨hp,g,d,tk,os⟩:=s₁)
 (repeat (first | with_reducible refine wpAny_loadPart_at he ?_ | with_reducible refine wpAny_loadPart_at hC ?_ | (with_reducible refine wpAny_isSubtype_exc hC ?_;rw[hcB]) | wp_step))
 (exact wpAny_raiseNew_none hh hE)
end
variable {w:World}{h:Heap}{g:Array GenState}{d:Drawn}{os:OsState}{prog:Program}{bmB:List Value}{B nid initId:String}{mN:Str->Option Value}{fI:Addr}{oI:Obj}{Q:Value->Shared->Prop}
section
variable {t:Nat}
variable {bs:List Value}{sub:List Value}{ab:Bool}{Bn inN:String}{bmN:List Value}{nm:Str}
theorem jYa (Fn:ExcBaseFacts Bn newId inN bmN)(hBn:bmB.contains (.type Bn)=true)(F:ExcBaseFacts B nid initId bmB)(T:OwnTail h bmB bm){rest:List Value}{Q:PySem.Fin->Shared->Prop}(hC:h.get? C=some (excClassObj nm q C N bs bm hdct sn sub ab col dd k0 k1 k2 k3 k5 newId))(hn:h.Ns N mN)(hi:mN "__init__"=some (.ref fI))(hfI:h.get? fI=some oI)(hfc:oI.cls= .type "function")(hq:∀h' e,Heap.MadeExcOf h h' e (.ref C) rest->
   wpAny (model prog w) A (call (.ref fI) (.ref e::rest)) (fun r s'=>r= .none/\Q (.done (.ret (.ref e))) s') E ⟨h',g,d,t,os⟩)(hrest:rest.length<=sizeLine):wpAny (model prog w) A (Builtin.«type.__call__» ⟨.ref C::rest,[]⟩) Q E ⟨h,g,d,t,os⟩:=by
 (repeat (first | with_reducible refine wpAny_loadPart_at hC ?_ | with_reducible refine wpAny_madeBy_exc hC ?_ | wp_step))
 (refine codeAny_call_builtin_code (Code.quiet_builtin _ Fn.quiet) (wpAny_check_new_subU Fn hBn T hC ?_))
 (refine codeAny_exc_new_subU Fn hBn F T hC ?_ hrest)
 show wpAny _ _ _ _ _ _
 have up:∀b o,h.get? b=some o->((h.push {cls:= .type "tuple",data:= .seq rest.toArray}).push {cls:= .ref C,data:= .fields #[.ref h.objs.size,.none,.none,.none,.bool false,.none]}).get? b=some o:=
  fun b o e=>(Heap.get?_push_of_some _ (Heap.get?_push_of_some _ e))
 have hget:((h.push {cls:= .type "tuple",data:= .seq rest.toArray}).push {cls:= .ref C,data:= .fields #[.ref h.objs.size,.none,.none,.none,.bool false,.none]}).get? (h.objs.size+1)=some {cls:= .ref C,data:= .fields #[.ref h.objs.size,.none,.none,.none,.bool false,.none]}:=by heap_get
 have tget:((h.push {cls:= .type "tuple",data:= .seq rest.toArray}).push
   {cls:= .ref C,data:= .fields #[.ref h.objs.size,.none,.none,.none,.bool false,.none]}).get? h.objs.size=some {cls:= .type "tuple",data:= .seq rest.toArray}:=
  Heap.get?_push_of_some _ (Heap.get?_push_at (rfl) rfl)
 have made:=fun (x:Heap) (u:∀b o,h.get? b=some o->x.get? b=some o) (a:x.get? (h.objs.size+1)=some {cls:= .ref C,data:= .fields #[.ref h.objs.size,.none,.none,.none,.bool false,.none]}) (b:x.get? h.objs.size=some {cls:= .type "tuple",data:= .seq rest.toArray})=>
  (⟨u,Heap.get?_none_of_le (Nat.le_succ _),h.objs.size,a,Heap.get?_none_of_le (Nat.le_refl _),b⟩:Heap.MadeExcOf h x (h.objs.size+1) (.ref C) rest)
 generalize (h.push {cls:= .type "tuple",data:= .seq rest.toArray}).push {cls:= .ref C,data:= .fields #[.ref h.objs.size,.none,.none,.none,.bool false,.none]}=h1 at up hget tget made ⊢
 have hC₁:=up _ _ hC
 have hn₁:h1.Ns N mN:=let ⟨o,es,ep,e,r⟩:=hn;⟨o,es,ep,up _ _ e,r⟩
 (have hcC:(Value.ref C::bm).contains (.ref C)=true:=by simp)
 have T₁:=T.keeps (h':=h1) up
 unfold isInstance
 (repeat (first | with_reducible refine wpAny_loadPart_at hget ?_ | (with_reducible refine wpAny_isSubtype_exc hC₁ ?_;rw[hcC]) | wp_step))
 show wpAny _ _ (typeLookup (Value.ref C) _) _ _ _
 (refine wpAny_typeLookup_tail hC₁ hn₁ T₁ F.mroIs F.init.lookup ?_)
 rw[hi]
 (refine wpAny_holding (wpAny_bind ?_))
 unfold bindSpecial
 refine wpAny_bind (wpAny_typeOf (T:="function") ⟨_,up _ _ hfI,hfc⟩ ?_)
 rw[if_pos (by decide)]
 refine wpAny_pure (wpAny_bind (wpAny_mono (hq _ (h.objs.size+1) (made h1 up hget tget)) (fun r s' hr=> ?_) fun _ _ x=>x))
 obtain⟨rfl,hQ⟩:=hr
 wp_walk
 exact hQ
theorem kX3 (Fn:ExcBaseFacts Bn newId inN bmN)(hBn:bmB.contains (.type Bn)=true)(F:ExcBaseFacts B nid initId bmB)(T:OwnTail h bmB bm){rest:List Value}(hC:h.get? C=some (excClassObj nm q C N bs bm hdct sn sub ab col dd k0 k1 k2 k3 k5 newId))(hn:h.Ns N mN)(hi:mN "__init__"=some (.ref fI))(hfI:h.get? fI=some oI)(hfc:oI.cls= .type "function")(hq:∀h' e,Heap.MadeExcOf h h' e (.ref C) rest->
   wpAny (model prog w) (A.under (.builtin "type.__call__" ⟨.ref C::rest,[]⟩)) (call (.ref fI) (.ref e::rest)) (fun r s'=>r= .none/\Q (.ref e) s') E ⟨h',g,d,t,os⟩)(hrest:rest.length<=sizeLine):wpAny (model prog w) A (call (.ref C) rest) Q E ⟨h,g,d,t,os⟩:=by
 have f1:=tc_lookup
 have f2:=tc_bind (.ref C)
 (have hT:(⟨h,g,d,t,os⟩:Shared).TypeIs (.ref C) "type":=⟨_,hC,rfl⟩)
 (refine wpAny_call (codeAny_of_tree ?_))
 show wpAny _ _ (callAny (Value.ref C) _) _ _ _
 (repeat (any_goals (first | assumption | with_reducible refine wpAny_loadPart_at hC ?_ | wp_step)))
 refine⟨rfl,?_⟩
 exact codeAny_call_builtin_at (Code.quiet_builtin _ (by decide +kernel)) entry_typeCall (wpAny_check_type_call_sub hC (jYa Fn hBn F T hC hn hi hfI hfc hq hrest))
end
variable {e:Addr}{dx:Option Addr}
section
variable {t:Nat}
variable {nm:Str}{bs:List Value}{sub:List Value}{ab:Bool}
theorem kZ1 (F:ExcBaseFacts B nid initId bmB)(T:OwnTail h bmB bm){t0:Addr}{rest:List Value}(hC:h.get? C=some (excClassObj nm q C N bs bm hdct sn sub ab col dd k0 k1 k2 k3 k5 newId))(he:h.get? e=some (exOb C t0 dx))(hrest:rest.length<=sizeLine)(hq:∀h' t',(∀b o,b≠e->h.get? b=some o->h'.get? b=some o)->h'.get? e=some (exOb C t' dx)->Q .none ⟨h',g,d,t,os⟩):
  wpAny (model prog w) A (call (.builtin initId) (.ref e::rest)) Q E ⟨h,g,d,t,os⟩:=by
 refine wpAny_call (codeAny_call_builtin F.init.plain F.initEntry (wpAny_check_init_subU F T hC he rfl ?_))
 wp_walk
 refine hq _ h.objs.size (fun b o hb hb2=> ?_) ?_
 ·rw[Heap.get?_update_other _ _ (Ne.symm hb)]
  exact Heap.get?_push_of_some _ hb2
 ·rw[Heap.get?_update_self _ (Heap.get?_push_of_some _ he) rfl]
  rfl
end
open Builtin.ObjectAttr Builtin
def kY7:List Value->Bool
 | .ref _::r=>kY7 r
 | l=>l == vmro
theorem kK7 (self:Value):∀ {l:List Value},kY7 l=true->refuseLoop self "__setattr__" l=pure ()
 | .ref c::r,e=>by rw[refuseLoop_ref];exact kK7 self e
 | [],e=>by cases e
 | .none::_,e=>by rw[eq_of_beq (show (_ == vmro)=true from e)];exact PySem.F.store_ValueError.passes self
 | .bool _::_,e=>by rw[eq_of_beq (show (_ == vmro)=true from e)];exact PySem.F.store_ValueError.passes self
 | .int _ _::_,e=>by rw[eq_of_beq (show (_ == vmro)=true from e)];exact PySem.F.store_ValueError.passes self
 | .str _ _::_,e=>by rw[eq_of_beq (show (_ == vmro)=true from e)];exact PySem.F.store_ValueError.passes self
 | .type n::_,e=>by rw[eq_of_beq (show (_ == vmro)=true from e)];exact PySem.F.store_ValueError.passes self
 | .builtin n::_,e=>by rw[eq_of_beq (show (_ == vmro)=true from e)];exact PySem.F.store_ValueError.passes self
 | .bytes _ _::_,e=>by rw[eq_of_beq (show (_ == vmro)=true from e)];exact PySem.F.store_ValueError.passes self
 | .float _ _::_,e=>by rw[eq_of_beq (show (_ == vmro)=true from e)];exact PySem.F.store_ValueError.passes self
 | .notImplemented::_,e=>by rw[eq_of_beq (show (_ == vmro)=true from e)];exact PySem.F.store_ValueError.passes self
 | .ellipsis::_,e=>by rw[eq_of_beq (show (_ == vmro)=true from e)];exact PySem.F.store_ValueError.passes self
theorem V_has:∀ {l:List Value},kY7 l=true->l.contains (.type "object")=true
 | .ref c::r,e=>by rw[List.contains_cons,V_has (l:=r) e,Bool.or_true]
 | [],e=>by cases e
 | .none::_,e=>by rw[eq_of_beq (show (_ == vmro)=true from e)];decide
 | .bool _::_,e=>by rw[eq_of_beq (show (_ == vmro)=true from e)];decide
 | .int _ _::_,e=>by rw[eq_of_beq (show (_ == vmro)=true from e)];decide
 | .str _ _::_,e=>by rw[eq_of_beq (show (_ == vmro)=true from e)];decide
 | .type n::_,e=>by rw[eq_of_beq (show (_ == vmro)=true from e)];decide
 | .builtin n::_,e=>by rw[eq_of_beq (show (_ == vmro)=true from e)];decide
 | .bytes _ _::_,e=>by rw[eq_of_beq (show (_ == vmro)=true from e)];decide
 | .float _ _::_,e=>by rw[eq_of_beq (show (_ == vmro)=true from e)];decide
 | .notImplemented::_,e=>by rw[eq_of_beq (show (_ == vmro)=true from e)];decide
 | .ellipsis::_,e=>by rw[eq_of_beq (show (_ == vmro)=true from e)];decide
def kQa (K:PySem.W.Frag)(C:Addr):Bool:=(clsIn K C).any fun cd=>kY7 cd.mro&&cd.hasDict
variable {x:Addr}{ox:Obj}{name:Str}{v:Value}
section
variable {K:PySem.W.Frag}{R:Result->Shared->Prop}
theorem kY6 {tk:Tok}(X:K.In s.heap)(I:InstAt s.heap x ox C none)(hd:ox.dict=none){fs:Array Value}(hf:ox.data= .fields fs)(hp:kQa K C=true)(ht:takerIn K C name=some none)(h:∀h' tk' dx,s.heap.objs.size<=dx->h'.get? x=some {ox with dict:=some dx}->h'.Ns1 dx (fun y=>if y=name then some v else none)->(∀b o,b≠x->s.heap.get? b=some o->h'.get? b=some o)->R (.ok (.ret .none)) {s with heap:=h',toks:=tk'}):codeAny (model prog w) A (.call (.builtin "object.__setattr__") ⟨[.ref x,.str name tk,v],[]⟩) R s:=by
 (have SF:=PySem.F.store_object)
 (obtain⟨cd,hc,ho⟩:=any_some hp)
 rw[Bool.and_eq_true] at ho
 obtain⟨ho,hD⟩:=ho
 (have ne:cd.mro.isEmpty=false:=by cases q:cd.mro with | nil=>rw[q] at ho;cases ho | cons _ _=>rfl)
 have sub:Looks (model prog w) s.heap (isInstance (.ref x) (.type "object")) true:=I.type.andThen (looks_mroIn X (by unfold mroIn;rw[hc,Option.bind_some,if_neg (by rw[ne];decide),V_has ho]))
 (refine codeAny_call_builtin SF.slot.plain SF.entry (@check_slot (model prog w) _ _ s "object.__setattr__" "object" "__setattr__" (.ref x) [.str name tk,v] [] _ SF.kind SF.split sub (SF.args (.ref x) (.str name tk) v) ?_))
 (obtain⟨attr,ha,hr⟩:=Option.bind_eq_some_iff.mp ht)
 (have hm:Looks (model prog w) s.heap (mroOf (.ref C)) cd.mro:=(looks_clsIn X hc).andThen .now)
 have L3:Looks (model prog w) s.heap (storeTaker? attr) none:=by
  cases attr with
  | none=>exact .now
  | some a=>
   obtain⟨b,hb,e⟩:=Option.map_eq_some_iff.mp hr
   (refine (looks_takesIn X hb).andThen ?_)
   cases b with
   | true=>cases e
   | false=>exact .now
 rw[osa_eq,refuse_eq]
 (refine wpAny_bind (wpAny_bind (I.type.here (wpAny_bind (hm.here ?_)))))
 rw[kK7 _ ho]
 (refine wpAny_pure (wpAny_bind (I.type.here (wpAny_bind ((looks_findIn X ha).here (wpAny_bind (L3.here ?_)))))))
 obtain⟨hx,hcl,hn,-⟩:=I
 (obtain⟨oc,odi,oda,osl⟩:=ox)
 dsimp only at hcl hd hf
 subst hcl hd hf
 dsimp only at h
 unfold storeInOwnDict
 (refine wpAny_bind (wpAny_pure (wpAny_bind (wpAny_bind (wpAny_loadPart hx (wpAny_bind ((looks_clsIn X hc).here ?_)))))))
 rw[hD]
 rw[if_neg (show ¬ ((!true)=true) by decide)]
 dsimp only
 rw[if_neg (show ¬ ((!true|| !typeHasDict (Value.ref C))=true) by simp[typeHasDict])]
 have hx₁:(s.heap.push {cls:= .type "dict",data:= .dict #[]}).get? x=some {cls:= .ref C,data:= .fields fs,slots:=osl}:=Heap.get?_push_of_some _ hx
 have hxs:x≠s.heap.objs.size:=Nat.ne_of_lt (Heap.lt_size hx)
 (refine wpAny_bind (wpAny_alloc' ?_))
 (refine wpAny_bind (wpAny_update' hx₁ ?_))
 refine wpAny_pure ?_
 have gd:((s.heap.push {cls:= .type "dict",data:= .dict #[]}).update x fun o=>{cls:=o.cls,dict:=some s.heap.objs.size,data:=o.data,slots:=o.slots}).get? s.heap.objs.size=some {cls:= .type "dict",data:= .dict #[]}:=
  (Heap.get?_update_ne _ _ _ _ hxs.symm).trans (Heap.get?_push_at (rfl) rfl)
 have gx:((s.heap.push {cls:= .type "dict",data:= .dict #[]}).update x fun o=>{cls:=o.cls,dict:=some s.heap.objs.size,data:=o.data,slots:=o.slots}).get? x=some {cls:= .ref C,dict:=some s.heap.objs.size,data:= .fields fs,slots:=osl}:=
  Heap.get?_update_self _ hx₁ rfl
 have go:∀b o,b≠x->s.heap.get? b=some o->((s.heap.push {cls:= .type "dict",data:= .dict #[]}).update x fun o=>{cls:=o.cls,dict:=some s.heap.objs.size,data:=o.data,slots:=o.slots}).get? b=some o:=fun b o hb e=>
  (Heap.get?_update_ne _ _ _ _ hb).trans (Heap.get?_push_of_some _ e)
 generalize (s.heap.push {cls:= .type "dict",data:= .dict #[]}).update x (fun o=>{cls:=o.cls,dict:=some s.heap.objs.size,data:=o.data,slots:=o.slots})=h1 at gd gx go ⊢
 have hnd:h1.Ns s.heap.objs.size (fun _=>none):=⟨_,#[],_,gd,rfl,fun e he=>absurd he (by simp),fun _=>rfl⟩
 show wpAny _ _ (storeInDict s.heap.objs.size (.str name tk) name v) _ _ _
 (unfold storeInDict newKeyGuard)
 (refine wpAny_bind (wpAny_pure (wpAny_bind (wpAny_nsSet1 (Heap.Ns1.of_empty hnd) fun h' hn' hs=> ?_))))
 (obtain⟨oD,esD,epD,hoD,hdD,hcD⟩:=hn'.count (Within.cons name v Within.nil))
 (refine wpAny_bind (wpAny_lookBehind hoD (by rw[hdD];exact pastItsLine_dict (Nat.le_trans hcD (by rw[List.length_cons,List.length_nil,sizeLine_eq];omega))) ?_))
 exact wpAny_pure (h h' _ _ (Nat.le_refl _) ((hs.2 x hxs).trans gx) hn' fun b o hb e=>(hs.2 b (Nat.ne_of_lt (Heap.lt_size e))).trans (go b o hb e))
theorem kYp {Q:Unit->Shared->Prop}(X:K.In s.heap)(I:InstAt s.heap x ox C none)(hd:ox.dict=none){fs:Array Value}(hf:ox.data= .fields fs)(hp:kQa K C=true)(ht:takerIn K C name=some none)(hs:findIn K (.ref C) "__setattr__"=some (some (.builtin "object.__setattr__")))(h:∀h' tk' dx,s.heap.objs.size<=dx->h'.get? x=some {ox with dict:=some dx}->h'.Ns1 dx (fun y=>if y=name then some v else none)->(∀b o,b≠x->s.heap.get? b=some o->h'.get? b=some o)->Q () {s with heap:=h',toks:=tk'}):
  wpAny (model prog w) A (setAttr (.ref x) name v) Q E s:=
 set_plain X I hs (kY6 (s:={s with toks:=s.toks+1}) X I hd hf hp ht fun h' tk' dx a b c d=>h h' tk' dx a b c d)
end
variable {P:Program}{H:Hp}
theorem kXg (x:ExO C e dx h):ObjOk P w H h e (.ext (ExO C e dx)):=
 ⟨x,let ⟨_,q⟩:=x;⟨_,q⟩,fun _ _ p k=>let ⟨t,q⟩:=p;⟨t,k _ q⟩⟩
structure XI (K:PySem.W.Frag) (mg:Str->Option Value) (bn at_:Str) (C W:Addr):Prop where
 bW:mg bn=some (.ref W)
 rd:readsIn K W (.type "type")=true
 sp:specialIn K (.ref W) "__getattribute__"=some (some (.builtin "type.__getattribute__"))
 fc:findCls K (.ref W) (.type "type") "__init__"=some (.val (.builtin "ValueError.__init__"))
 pv:kQa K C=true
 tk:takerIn K C at_=some none
 sa:findIn K (.ref C) "__setattr__"=some (some (.builtin "object.__setattr__"))
 cl:∃bm N nm qn bs hdct sn sub ab col dd k0 k1 k2 k3 k5 newId,K.lookup C=some (excClassObj nm qn C N bs bm hdct sn sub ab col dd k0 k1 k2 k3 k5 newId)/\tailIn K vmro bm=true
variable {X:Cx}{bn v1 v2 v3 y:Str}{p1 p2 p3 p4 pos:Pos}
section
variable {pins:List (Addr×Obj)}{σ:L2.St}
theorem qKr {at_:Str}{W:Addr}{x2:V}{pl:Sem Bool}(TI:XI X.K X.mg bn at_ C W)(I:Inv X pins σ H s)(he:H e=some (.ext (ExO C e none)))(h1:PE X (.Name v1 p3) (L2.tVar 0))(h2:PE X (.Name v2 p4) (L2.tVar 1))(hσ:σ[0]? =some (some (.ref e)))(hσ2:σ[1]? =some (some x2))(hg:Gl X bn)(hdb:(bn == ("__debug__":Str))=false)(hst:starEach [.Name v1 p3,.Name v2 p4] X.env=(false,eval (.Name v1 p3) X.env)::starEach [.Name v2 p4] X.env:=by rfl)(hst2:starEach [.Name v2 p4] X.env=[(false,eval (.Name v2 p4) X.env)]:=by rfl)(ht:eval (.Call (.Attribute (.Name bn p1) "__init__" p2) [.Name v1 p3,.Name v2 p4] [] pos) X.env=(do
   let ov <-eval (.Name bn p1) X.env
   standAt p2.atName
   let (f,first) <-holding [ov] (getMethod ov "__init__" pl)
   callWith pos f first (backTo pos (starEach [.Name v1 p3,.Name v2 p4] X.env)) (backToKw pos (keywordEach [] X.env))):=by rfl):
  wpAny (model X.prog X.w) X.A (eval (.Call (.Attribute (.Name bn p1) "__init__" p2) [.Name v1 p3,.Name v2 p4] [] pos) X.env) (fun v s'=>v= .none/\Inv X pins σ H s') X.xe s:=by
 refine PySem.W.methodCall_KW (pl:=pl) (jUn I hg TI.bW ?_ hdb) ht
 refine method_cls I.kIn TI.sp (cls_value I.kIn TI.rd TI.fc (by rfl) ?_)
 have I1:Inv X pins σ H {s with toks:=s.toks+1}:=I.kept (t':=s.toks+1) fun b u q=>q
 refine PyProof.Rows.callWith_builtin1 (thn (L2.pa_cons h1 (L2.pa_cons h2 L2.pa_nil hst2) hst pos pins _ σ H (fun xs H'=>xs=[.ref e,x2]/\H'=H) I1 ⟨.ref e,hσ,x2,hσ2,rfl,rfl⟩) fun us s1 ⟨vs,H1,I2,rvs,q⟩=> ?_) hst (by rw[hst2];rfl)
 obtain⟨rfl,rfl⟩:=q
 cases rvs with
 | @cons _ u1 _ us1 ru1 rvs=>
 cases rvs with
 | @cons _ u2 _ us2 ru2 rvs=>
 cases rvs
 cases (show u1=Value.ref e from ru1)
 obtain⟨bm,N,nm,qn,bs,hdct,sn,sub,ab,col,dd,k0,k1,k2,k3,k5,newId,hC,htl⟩:=TI.cl
 obtain⟨⟨t0,ho⟩,_⟩:=(show ExO C e none s1.heap/\_ from I2.hok e _ he)
 obtain⟨hp,g,d,tk,os⟩:=s1
 refine kZ1 PySem.F.excBase_ValueError (tail_of_in I2.kIn htl) (I2.kIn _ _ hC) ho (by rw[sizeLine_eq];show 1<=16777216;decide) fun h' t' k1 k2=>⟨rfl,?_⟩
 refine I2.un (t':=tk) ⟨fun b o q n _ _=>k1 b o (fun z=>by rw[z,he] at n;cases n) q,fun b o q n _ _=>⟨o.slots,k1 b o (fun z=>by rw[z,he] at n;cases n) q⟩,fun _ _ _ n _=>n,fun b o q _=> ?_,fun _ _ q=>q,fun _ _ _ q=>q,fun b ps q=>⟨#[],by rw[q];simp⟩⟩ fun a o q=> ?_
 ·by_cases z:b=e
  ·rw[z];exact⟨_,k2⟩
  ·exact⟨o,k1 b o z q⟩
 ·by_cases z:a=e
  ·subst z
   rw[he] at q;cases q
   exact kXg ⟨t',k2⟩
  ·refine (I2.hok a o q).stay (fun b u hb hq=>k1 b u (fun zz=> ?_) hq) (fun _ hq=>hq) fun _ _ hq=>hq
   rcases hb with rfl | hb
   ·exact z zz
   ·rw[zz,he] at hb;cases hb
theorem qKq {at_:Str}{W:Addr}(TI:XI X.K X.mg bn at_ C W)(I:Inv X pins σ H s)(he:H e=some (.ext (ExO C e none)))(h1:PE X (.Name v1 p1) (L2.tVar 0))(h3:PE X (.Name v3 p3) (L2.tVar 2))(hσ:σ[0]? =some (some (.ref e)))(hσ3:σ[2]? =some (some (.str y)))(hs:swapsWith (.Name v3 p3) (some (.Attribute (.Name v1 p1) at_ p2)) pos.line X.env=pure false:=by rfl):
  wpAny (model X.prog X.w) X.A (exec (.Assign [.Attribute (.Name v1 p1) at_ p2] (.Name v3 p3) pos) X.env) (fun f s'=>f= .next/\∃dx od,H dx=none/\Inv X pins σ (upd (upd H e (.ext (ExO C e (some dx)))) dx (.frz od (.xd [(at_,.str y)]))) s') X.xe s:=by
 refine plainObj_wpAny_Assign_Attribute (thn (h3 pins s σ H (fun v H'=>v= .str y/\H'=H/\True) I ⟨.str y,hσ3,rfl,rfl,trivial⟩) fun u s1 ⟨v,H1,I1,ru,q⟩=> ?_) hs
 obtain⟨rfl,rfl,-⟩:=q
 obtain⟨tk,rfl⟩:=(show ∃tk,u=Value.str y tk from ru)
 refine thn (h1 pins s1 σ H1 (fun v H'=>v= .ref e/\H'=H1/\True) I1 ⟨.ref e,hσ,rfl,rfl,trivial⟩) fun ov s2 ⟨v,H2,I2,ru2,q2⟩=> ?_
 obtain⟨rfl,rfl,-⟩:=q2
 cases (show ov=Value.ref e from ru2)
 obtain⟨⟨t0,ho⟩,_⟩:=(show ExO C e none s2.heap/\_ from I2.hok e _ he)
 refine kYp (ox:=exOb C t0 none) I2.kIn ⟨ho,rfl,rfl,trivial⟩ rfl rfl TI.pv TI.tk TI.sa fun h' tk' dx a b c d=> ?_
 obtain⟨od,es,ep,eod,cr⟩:=id c
 refine⟨rfl,dx,od,I2.hok.fresh a,?_⟩
 have hne:e≠dx:=Nat.ne_of_lt (Nat.lt_of_lt_of_le (Heap.lt_size ho) a)
 have hdx:=I2.hok.fresh a
 have at_e:upd (upd H2 e (.ext (ExO C e (some dx)))) dx (.frz od (.xd [(at_,.str y)])) e=some (.ext (ExO C e (some dx))):=by rw[jJk hne,jJn]
 have at_d:upd (upd H2 e (.ext (ExO C e (some dx)))) dx (.frz od (.xd [(at_,.str y)])) dx=some (.frz od (.xd [(at_,.str y)])):=jJn
 have at_o:∀ {b:Addr},b≠e->b≠dx->upd (upd H2 e (.ext (ExO C e (some dx)))) dx (.frz od (.xd [(at_,.str y)])) b=H2 b:=fun n1 n2=>by rw[jJk n2,jJk n1]
 generalize upd (upd H2 e (.ext (ExO C e (some dx)))) dx (.frz od (.xd [(at_,.str y)]))=H' at at_e at_d at_o ⊢
 have ol:∀ {b:Addr} {o:Obj},s2.heap.get? b=some o->b≠dx:=fun q=>Nat.ne_of_lt (Nat.lt_of_lt_of_le (Heap.lt_size q) a)
 have nn:∀ {b:Addr},H2 b=none->b≠e:=fun n z=>by rw[z,he] at n;cases n
 have sm:∀ {b:Addr} {o:HO},H2 b=some o->b≠dx:=fun q z=>by rw[z,hdx] at q;cases q
 refine I2.un (t':=tk') ⟨fun b o q n _ _=>d b o (nn n) q,fun b o q n _ _=>⟨o.slots,d b o (nn n) q⟩,fun b o q n _=>by rw[at_o (nn n) (ol q)];exact n,fun c' o q _=> ?_,fun b xs q=> ?_,fun b o u q=> ?_,fun b ps q=> ?_⟩ fun a' o q=> ?_
 ·by_cases z:c'=e
  ·rw[z];exact⟨_,b⟩
  ·exact⟨o,d c' o z q⟩
 ·have z:b≠e:=fun z=>by rw[z,he] at q;cases q
  rw[at_o z (sm q)];exact q
 ·have z:b≠e:=fun z=>by rw[z,he] at q;cases q
  rw[at_o z (sm q)];exact q
 ·have z:b≠e:=fun z=>by rw[z,he] at q;cases q
  exact⟨#[],by rw[at_o z (sm q),q];simp⟩
 ·by_cases z1:a'=e
  ·subst z1
   rw[at_e] at q;cases q
   exact kXg ⟨t0,b⟩
  ·by_cases z2:a'=dx
   ·subst z2
    rw[at_d] at q;cases q
    refine⟨eod,_,c,fun f=> ?_⟩
    by_cases z:f=at_
    ·subst z
     rw[if_pos rfl]
     simp only[List.lookup,beq_self_eq_true]
     exact⟨tk,rfl⟩
    ·rw[if_neg z]
     simp only[List.lookup,beq_eq_false_iff_ne.mpr z]
     trivial
   ·rw[at_o z1 z2] at q
    refine (I2.hok a' o q).stay (fun b u hb hq=>d b u (fun zz=> ?_) hq) (fun b hq=> ?_) fun b xs hq=> ?_
    ·rcases hb with rfl | hb
     ·exact z1 zz
     ·rw[zz,he] at hb;cases hb
    ·have z:b≠e:=fun z=>by rw[z,he] at hq;cases hq
     rw[at_o z (sm hq)];exact hq
    ·have z:b≠e:=fun z=>by rw[z,he] at hq;cases hq
     rw[at_o z (sm hq)];exact hq
end
noncomputable def spI (C:Addr)(at_:Str):Sp:=fun vs H Q _=>vs.length=3/\∃(e:Addr) (x2:V) (y:Str),vs=[.ref e,x2,.str y]/\H e=some (.ext (ExO C e none))/\∀dx od,H dx=none->Q .non (upd (upd H e (.ext (ExO C e (some dx)))) dx (.frz od (.xd [(at_,.str y)])))
variable {mg:Str->Option Value}{qual:Str}{st:Stmt}
theorem qKs {K:PySem.W.Frag}{base:Heap}{f:Addr}{fd:FuncData}{k:Nat}{at_:Str}{W:Addr}{p5 p6 p7 p8 p9 p10:Pos}(TI:XI K mg bn at_ C W)(F:Fun K "__init__" qual st f fd)(S:FnScope [v1,v2,v3] [v1,v2,v3] (jJd st))(hb:jJx st=[.Expr (.Call (.Attribute (.Name bn p1) "__init__" p2) [.Name v1 p3,.Name v2 p4] [] p5) p6,.Assign [.Attribute (.Name v1 p7) at_ p8] (.Name v3 p9) p10])(h1:∀X:Cx,X.env.scope=jJd st->X.N=[v1,v2,v3]->(∀p,PE X (.Name v1 p) (L2.tVar 0))/\(∀p,PE X (.Name v2 p) (L2.tVar 1))/\∀p,PE X (.Name v3 p) (L2.tVar 2))(hg:∀X:Cx,X.env.scope=jJd st->X.env.globals=mainGlobals->Gl X bn)(hdb:(bn == ("__debug__":Str))=false)(ht:∀env:Env,∃pl:Sem Bool,eval (.Call (.Attribute (.Name bn p1) "__init__" p2) [.Name v1 p3,.Name v2 p4] [] p5) env=(do
   let ov <-eval (.Name bn p1) env
   standAt p2.atName
   let (f,first) <-holding [ov] (getMethod ov "__init__" pl)
   callWith p5 f first (backTo p5 (starEach [.Name v1 p3,.Name v2 p4] env)) (backToKw p5 (keywordEach [] env)))):FnOk P w K mg base CX0 (k+1) f fd [v1,v2,v3] (spI C at_):=by
 refine Fun.ok (sp:=spI C at_) F S (fun vs H Q E h=>h.1) fun cdv A outer s H vs Q E hr hsp=> ?_
 obtain⟨hl,e,x2,y,rfl,he,kq⟩:=hsp
 refine⟨fun D σ H1=>D.nx=(fun _ H'=>Q .non H')/\σ=L2.start [v1,v2,v3] [.ref e,x2,.str y]/\H1=H,?_,rfl,rfl,rfl⟩
 rintro pins s1 σ1 H1 D I ⟨e1,e2,e3⟩
 subst e2;subst e3
 obtain⟨q1,q2,q3⟩:=h1 (cxOf CX0 P w K mg base [v1,v2,v3] qual (jJd st) f cdv A outer s H1 E).nox rfl rfl
 rw[hb]
 obtain⟨pl,ht⟩:=ht (cxOf CX0 P w K mg base [v1,v2,v3] qual (jJd st) f cdv A outer s H1 E).nox.env
 refine wpAny_execs_cons (wpAny_Expr_any (thn (qKr (X:=(cxOf CX0 P w K mg base [v1,v2,v3] qual (jJd st) f cdv A outer s H1 E).nox) (pl:=pl) TI I he (q1 p3) (q2 p4) rfl rfl (hg _ rfl rfl) hdb (ht:=ht)) fun v s2 ⟨ev,I2⟩=> ?_) I.quiet)
 subst ev
 refine wpAny_execs_cons (thn (qKq (X:=(cxOf CX0 P w K mg base [v1,v2,v3] qual (jJd st) f cdv A outer s H1 E).nox) TI I2 he (q1 p7) (q3 p9) rfl rfl) fun fl s3 ⟨ef,dx,od,hd,I3⟩=> ?_)
 subst ef
 refine wpAny_execs_nil ?_
 exact⟨_,_,I3,by rw[e1];exact kq dx od hd⟩
noncomputable def kZr (K:Frag)(C fI:Addr)(bmB:List Value)(newId:String):Bool:=match K.lookup C with
 | some ⟨.type "type",_,.cls cd,sl⟩=>(match cd.mro,sl.toList with
  | .ref C'::bm,[_,_,_,_,some (.builtin n),_]=>C' == C&&n == newId&& !cd.hasDel&&tailIn K bmB bm&&nsOkIn K cd.ns&&nsIn K cd.ns "__init__" == some (some (.ref fI))
  | _,_=>false)
 | _=>false
theorem qJi {K:PySem.W.Frag}(q:kZr K C fI bmB newId=true):
  ∃bm N nm qn bs hdct sn sub ab col dd k0 k1 k2 k3 k5,K.lookup C=some (excClassObj nm qn C N bs bm hdct sn sub ab col dd k0 k1 k2 k3 k5 newId)/\nsOkIn K N=true/\nsIn K N "__init__"=some (some (.ref fI))/\tailIn K bmB bm=true:=by
 unfold kZr at q
 split at q
 ·rename_i dd cd sl ho
  split at q
  ·rename_i C' bm k0 k1 k2 k3 n k5 hm hs
   (simp only[Bool.and_eq_true,beq_iff_eq,Bool.not_eq_true'] at q)
   obtain⟨⟨⟨⟨⟨rfl,rfl⟩,z⟩,ht⟩,hok⟩,hni⟩:=q
   (obtain⟨nm,bs,mro,ns,qn,hd,sn,sub,ab,col,del⟩:=cd)
   dsimp only at hm z hok hni
   subst hm z
   have e:sl= #[k0,k1,k2,k3,some (.builtin n),k5]:=by
    obtain⟨l⟩:=sl
    simp only at hs
    rw[hs]
   subst e
   exact⟨bm,ns,nm,qn,bs,hd,sn,sub,ab,col,dd,k0,k1,k2,k3,k5,ho,hok,hni,ht⟩
  ·cases q
 ·cases q
variable {K:Frag}
theorem ns_has {n:Str}(X:K.In h)(G:h.Ns N mN)(e:nsIn K N n=some (some v)):mN n=some v:=by
 obtain⟨ob,es,ep,hob,hdt,_,hfd⟩:=G
 unfold nsIn at e
 split at e
 ·rename_i q
  have hq:=X _ _ q
  rw[hob] at hq
  cases hq
  cases hdt
  rw[<-hfd]
  unfold nsFind findBy
  rw[<-Array.find?_toList]
  split at e
  ·rename_i he
   rw[he]
   cases e
   rfl
  ·split at e<;>cases e
 ·cases e
structure ExI (P:Program) (w:World) (K:PySem.W.Frag) (mg:Str->Option Value) (base:Heap) (k:Nat) (nm:Str):Prop where
 ex:∃C fI oI fd ps,CN K nm C/\mg nm=some (.ref C)/\FnOk P w K mg base CX0 k fI fd ps (spI C "why")/\Binds K fd ps []/\K.lookup fI=some oI/\oI.cls= .type "function"/\kZr K C fI vmro "ValueError.__new__"=true
variable {cn:Str}
theorem jYy {k:Nat}{R:XK3}{nm v:Str}{a1 a2:Expr}{np cpos:Pos}(hx:XR X R)(hC:ExI X.prog X.w X.K X.mg X.base k nm)(hr:Room (k+1) X.A)(ha:PA3 X [a1,a2] (jJa (tC (.str v)) (jJa (tC (.str y)) tNil)))(hg:Gl X nm:=by rfl)(hdb:(nm == ("__debug__":Str))=false:=by decide)(he:starEach [a1,a2] X.env=[(false,eval a1 X.env),(false,eval a2 X.env)]:=by rfl)(hw:jKe cn=some y:=by decide)(hnm:nmOf cn=nm:=by decide):
  PS3 X (.Raise (some (.Call (.Name nm np) [a1,a2] [] cpos)) none pos) (jQv R cn):=by
 intro pins s τ G H D I h
 obtain⟨C,fI,oI,fd,ps,hcn,hmg,F,hb,hfl,hfc,hin⟩:=hC.ex
 obtain⟨σ,I0,hs,hgr⟩:=id I
 obtain⟨bm,N,nm',qn,bs,hdct,sn,sub,ab,col,dd,k0,k1,k2,k3,k5,hC0,hok,hni,ht⟩:=qJi hin
 have hbt:backTo cpos (starEach [a1,a2] X.env)=[(false,eval a1 X.env),(false,eval a2 X.env)]:=by rw[he];rfl
 rw[arm_exec_Raise]
 refine wpAny_bind (wpAny_standAt (kQ8 (C:=C) (nm:=nm') (q:=qn) (N:=N) (bs:=bs) (bm:=bm) (hdct:=hdct) (sn:=sn) (sub:=sub) (ab:=ab) (col:=col) (dd:=dd) (k0:=k0) (k1:=k1) (k2:=k2) (k3:=k3) (k5:=k5) (newId:="ValueError.__new__") (jZs (tail_of_in I0.kIn ht)) hr.hd ?_))
 refine wpAny_bind (wpAny_mono (wpAny_Call_ofName (Q:=fun v s₁=>∃e t dx,v= .ref e/\s₁.heap.get? C=some (excClassObj nm' qn C N bs bm hdct sn sub ab col dd k0 k1 k2 k3 k5 "ValueError.__new__")/\
   s₁.heap.get? e=some {cls:= .ref C,dict:=dx,data:= .fields #[.ref t,.none,.none,.none,.bool false,.none]}/\X.xe (.ref e) s₁) (jUn I0 hg hmg ?_ hdb)) (fun v s₃ h₃=>wpAny_bind (wpAny_standAt (wpAny_pure h₃))) fun _ _ x=>x)
 unfold callWith
 rw[hbt]
 have hA:=ha cpos pins s τ G H (fun ts G'=>ts=[.str v,.str y]/\R cn G') I ⟨rfl,h⟩
 rw[hbt] at hA
 have hE:wpAny (model X.prog X.w) X.A (evalArgs (.ref C) true [(false,eval a1 X.env),(false,eval a2 X.env)] []) (fun (a:Args) s1=>∃us,a=⟨us,[]⟩/\us.length=2/\∃ σ1 H1 G1 as,Inv X pins σ1 H1 s1/\GRel X.K H1 G1/\Reps X.K H1 [.str v,.str y] as/\Vals as us/\R cn G1) X.xe s:=by
  refine Calls.evalArgs_plain (thn hA fun us s1 w_=>w_.el fun xs G1 H1 e1 i_ r_ q=>i_.el fun σ1 I1 hs1 hg1=>r_.el fun as ras rvs=> ?_)
  obtain⟨rfl,q⟩:=q
  exact⟨us,rfl,by rw[<-rvs.length,<-ras.length];rfl,σ1,H1,G1,as,I1,hg1,ras,rvs,q⟩
 refine wpAny_bind (wpAny_holding (wpAny_mono hE (fun a s1 h2=>wpAny_bind (wpAny_standAt ?_)) fun _ _ x=>x))
 obtain⟨us,rfl,hl,σ1,H1,G1,as,I1,hg1,ras,rvs,hR⟩:=h2
 have hn1:s1.heap.Ns N (s.heap.nsMap N):=kVp I0.kIn I1.kIn hok (.of_isNs (isNs_of_in I0.kIn hok))
 have hC1:=I1.kIn _ _ hC0
 have hf1:=I1.kIn _ _ hfl
 have T1:=tail_of_in I1.kIn ht
 have env1:=I1.env0
 refine wpAny_bind (wpAny_keeperOf_exc (h:=s1.heap) (g:=s1.gens) (d:=s1.drawn) (t:=s1.toks) (os:=s1.os) hC1 ?_)
 refine wpAny_bind (kX3 (h:=s1.heap) (g:=s1.gens) (d:=s1.drawn) (t:=s1.toks) (os:=s1.os) PySem.F.excBase_ValueError (by decide) PySem.F.excBase_ValueError T1 hC1 hn1 (?_:s.heap.nsMap N "__init__"=some (.ref fI)) hf1 hfc (fun h' e hm=> ?_) (by show us.length<=_;rw[hl];decide))
 ·exact ns_has I0.kIn (.of_isNs (isNs_of_in I0.kIn hok)) hni
 have hs1:s1.heap.get? e=none:=hm.new
 obtain⟨t0,het,_,_⟩:=hm.there
 have hn1e:H1 e=none:=by
  cases q:H1 e with
  | none=>rfl
  | some o=>obtain⟨u,hu⟩:=jZ2 (I1.hok e o q);rw[hs1] at hu;cases hu
 have old:∀ {b:Addr} {o:Obj},s1.heap.get? b=some o->b≠e:=fun q z=>by rw[z,hs1] at q;cases q
 have kept:∀b o,s1.heap.get? b=some o->h'.get? b=some o:=hm.keeps
 have I2:Inv X pins σ1 (upd H1 e (.ext (ExO C e none))) {s1 with heap:=h',toks:=s1.toks}:=by
  refine I1.un (t':=s1.toks) ⟨fun b o q n _ _=>kept b o q,fun b o q n _ _=>⟨o.slots,kept b o q⟩,fun b o q n _=>by rw[jJk (old q)];exact n,fun b o q _=>⟨o,kept b o q⟩,fun b xs q=> ?_,fun b o u q=> ?_,fun b ps q=>⟨#[],?_⟩⟩ fun a o q=> ?_
  ·rw[jJk (jJu q hn1e)];exact q
  ·rw[jJk (jJu q hn1e)];exact q
  ·rw[jJk (jJu q hn1e),q];simp
  ·by_cases z:a=e
   ·subst z
    rw[jJn] at q;cases q
    exact kXg ⟨t0,het⟩
   ·rw[jJk z] at q
    refine (I1.hok a o q).stay (fun b u hb hq=>kept b u hq) (fun b hq=> ?_) fun b xs hq=> ?_
    ·rw[jJk (jJu hq hn1e)];exact hq
    ·rw[jJk (jJu hq hn1e)];exact hq
 have env2:=I2.env0.make C us []
 have hps:(Value.ref e::us).length=ps.length:=by
  have:=F.len [.ref e,.str v,.str y] (upd H1 e (.ext (ExO C e none))) (fun _ _=>True) (fun _ _ _=>True) ⟨rfl,e,.str v,y,rfl,jJn,fun _ _ _=>trivial⟩
  rw[<-this,List.length_cons,hl];rfl
 obtain⟨v1,w1,rfl,r1,v2,w2,rfl,r2,rfl⟩:=(show ∃v1 w1,as=v1::w1/\Rep X.K H1 (.str v) v1/\∃v2 w2,w1=v2::w2/\Rep X.K H1 (.str y) v2/\w2=[] from ras)
 cases (show v1=V.str v from r1)
 cases (show v2=V.str y from r2)
 refine wpAny_call (codeAny_mono (F.run _ X.stack {s1 with heap:=h',toks:=s1.toks} (upd H1 e (.ext (ExO C e none))) ⟨.ref e::us,[]⟩ ((.ref e::us)++[]) [.ref e,.str v,.str y]
  (fun u H'=>u= .non/\∃dx od,upd H1 e (.ext (ExO C e none)) dx=none/\H'=upd (upd (upd H1 e (.ext (ExO C e none))) e (.ext (ExO C e (some dx)))) dx (.frz od (.xd [("why",.str y)]))) (fun _ _ _=>False) (hr.make C us []) env2 (hb _ _ I2.kIn (by rw[List.append_nil];exact hps)) (by rw[List.append_nil];exact .cons rfl rvs) ⟨rfl,e,.str v,y,rfl,jJn,fun dx od hd=>⟨rfl,dx,od,hd,rfl⟩⟩) fun r s' hq=> ?_)
 cases r with
 | error z=>exact False.elim hq
 | ok fl=>
  cases fl with
  | next=>exact False.elim hq
  | brk=>exact False.elim hq
  | cont=>exact False.elim hq
  | ret u=>
   obtain⟨vv,H3,I3,ru,rfl,dx,od,hd,rfl⟩:=I2.after hq
   cases (show u=Value.none from ru)
   have hde:dx≠e:=fun z=>by rw[z,jJn] at hd;cases hd
   have hd1:H1 dx=none:=by rw[jJk hde] at hd;exact hd
   have at_e:upd (upd (upd H1 e (.ext (ExO C e none))) e (.ext (ExO C e (some dx)))) dx (.frz od (.xd [("why",.str y)])) e=some (.ext (ExO C e (some dx))):=by rw[jJk (Ne.symm hde),jJn]
   have at_d:off e (upd (upd (upd H1 e (.ext (ExO C e none))) e (.ext (ExO C e (some dx)))) dx (.frz od (.xd [("why",.str y)]))) dx=some (.frz od (.xd [("why",.str y)])):=by rw[jU2 hde,jJn]
   have at_o:∀ {b:Addr},b≠e->b≠dx->off e (upd (upd (upd H1 e (.ext (ExO C e none))) e (.ext (ExO C e (some dx)))) dx (.frz od (.xd [("why",.str y)]))) b=H1 b:=fun n1 n2=>by rw[jU2 n1,jJk n2,jJk n1,jJk n1]
   generalize upd (upd (upd H1 e (.ext (ExO C e none))) e (.ext (ExO C e (some dx)))) dx (.frz od (.xd [("why",.str y)]))=H3 at I3 at_e at_d at_o
   have ex3:Ext H1 (off e H3):=⟨fun b xs q=>by rw[at_o (jJu q hn1e) (jJu q hd1)];exact q,fun b o u q=>by rw[at_o (jJu q hn1e) (jJu q hd1)];exact q⟩
   have g3:GRel X.K (off e H3) G1:=fun a o q=>(hg1 a o q).move ex3 (at_o (fun z=>(hg1 a o q).some (z▸hn1e)) fun z=>(hg1 a o q).some (z▸hd1))
   obtain⟨⟨t3,he3⟩,_⟩:=(show ExO C e (some dx) s'.heap/\_ from I3.hok e _ at_e)
   refine⟨rfl,wpAny_bind (wpAny_holding (wpAny_point (wpAny_pure ?_)))⟩
   refine⟨e,t3,some dx,rfl,I3.kIn _ _ hC0,he3,?_⟩
   refine hx.raiseW pins σ1 H3 G1 s' e C cn (some dx) I3 at_e (fun b o q nx z=> ?_) g3 (by show nsIn X.K mainGlobals (nmOf cn)=_;rw[hnm];exact hcn) (fun y' q=> ?_) hR
   ·obtain⟨o',q'⟩:=I1.base.there b o q nx
    exact old q' z
   ·rw[hw] at q;cases q
    exact⟨dx,od,rfl,at_d⟩
section
variable {od:Option Obj}{expr:Bool}
open PySem.Builtin.ObjectAttr PySem.Builtin in
theorem kXh (X:K.In s.heap)(I:InstAt s.heap x ox C od)(ga:findIn K (.ref C) "__getattribute__"=some (some (.builtin "BaseException.__getattribute__")))(gt:findIn K (.ref C) "__getattr__"=some none)(be:mroIn K C (.type "BaseException")=some true)(hf:findObj K C od name=some (.value v))(hh:handedIn v=true)(h:Q v {s with toks:=s.toks+1}):wpAny (model prog w) A (getAttr (.ref x) name expr) Q E s:=by
 (obtain⟨hh',g,d,t,os⟩:=s)
 (have L0:=I.type (M:=model prog w))
 have L1:=looks_findIn (M:=model prog w) X ga
 have L3:=looks_findIn (M:=model prog w) X gt
 have L4:=looks_mroIn (M:=model prog w) X be
 have L5:=looks_find (M:=model prog w) X I hf
 (have hx2:(Value.builtin "BaseException.__getattribute__" == Value.builtin "object.__getattribute__")=false:=by decide +kernel)
 (have hx1:(onTheHeap (Value.ref C)&&Value.builtin "BaseException.__getattribute__" == Value.builtin "object.__getattribute__")=false:=by rw[hx2];rfl)
 (have hx0:(expr&&onTheHeap (Value.builtin "BaseException.__getattribute__"))=false:=by cases expr<;>rfl)
 have f3:=PySem.F.attrBase_ValueError.ga.bind (.ref x)
 unfold getAttr getAttrBy
 (refine wpAny_bind (wpAny_mkText (wpAny_holding (wpAny_bind (L0.at (wpAny_bind (L1.at ?_)))))))
 dsimp only
 rw[hx1]
 (simp only[Bool.false_eq_true,if_false])
 unfold getAttrByItsOwn
 have L0:Looks (model prog w) hh' (typeOf (Value.ref x)) (Value.ref C):=L0
 have L1:Looks (model prog w) hh' (typeLookup (Value.ref C) (Str.ofString "__getattribute__")) (some (Value.builtin "BaseException.__getattribute__")):=L1
 have L3:Looks (model prog w) hh' (typeLookup (Value.ref C) (Str.ofString "__getattr__")) none:=L3
 have L4:Looks (model prog w) hh' (isSubtype (Value.ref C) (Value.type "BaseException")) true:=L4
 have key:∀(A:Around) (R:Result->Shared->Prop),R (.ok (.ret v)) ⟨hh',g,d,t+1,os⟩->codeAny (model prog w) A (.call (.builtin "BaseException.__getattribute__") ⟨[.ref x,.str name t],[]⟩) R ⟨hh',g,d,t+1,os⟩:=by
  intro A R hR
  refine codeAny_call_builtin PySem.F.attrBase_ValueError.ga.plain PySem.F.entry_bexc_ga ?_
  (have hk:builtinKind "BaseException.__getattribute__"=some .slot:=by decide +kernel)
  (have hsplit:splitId "BaseException.__getattribute__"=some ("BaseException","__getattribute__"):=by decide +kernel)
  have ha:=PySem.F.args_bexc_ga (.ref x) (.str name t)
  (simp only[checkBuiltinCall,hk,hsplit])
  refine wpAny_bind (wpAny_bind (L0.at (L4.at ?_)))
  rw[if_neg (by decide)]
  repeat (any_goals (first | assumption | with_reducible refine L0.at ?_ | with_reducible refine L5.at ?_ | wp_step))
 unfold hookBefore
 rw[if_pos (show onTheHeap (Value.ref C)=true from rfl)]
 refine wpAny_bind (L3.at ?_)
 (refine wpAny_bind (wpAny_attempt (wpAny_holding ?_)))
 unfold callGetattribute
 rw[if_neg (by rw[hx0];decide)]
 unfold boundAndCalled
 rw[f3]
 refine wpAny_bind (wpAny_pure ?_)
 refine (show wpAny _ _ (call (Value.builtin "BaseException.__getattribute__") [Value.ref x,Value.str name t]) _ _ _ from wpAny_call (key _ _ ?_))
 show wpAny _ _ (handedOut (v)) _ _ _
 (rw[handedOut_of hh];exact wpAny_pure h)
end
def tWhy (ta:TE3):TE3:=fun τ G Q=>ta τ G fun x G1=>∃a cn y,x= .ref a/\G1 a=some (.exc cn)/\jKe cn=some y/\Q (.str y) G1
theorem whyNm (h:jKe cn=some y):nmOf cn="Clash":=by unfold nmOf;rw[h];rfl
structure ExWhy (K:PySem.W.Frag) (nm:Str):Prop where
 ex:∃C,CN K nm C/\findIn K (.ref C) "__getattribute__"=some (some (.builtin "BaseException.__getattribute__"))/\findIn K (.ref C) "__getattr__"=some none/\mroIn K C (.type "BaseException")=some true/\hasDictIn K C=true/\findIn K (.ref C) "why"=some none
theorem e_why {e:Expr}{ta:TE3}(c:ExWhy X.K "Clash")(he:PE3 X e ta)(hb:attributeBase e "why" X.env (eval e X.env)=eval e X.env:=by rfl):PE3 X (.Attribute e "why" pos) (tWhy ta):=by
 intro pins s τ G H Q I h
 obtain⟨C,hC,hga,hgt,hbe,hd,hn⟩:=c.ex
 refine kX7 hb (thn (he pins s τ G H _ I h) fun u s1 w_=>w_.el fun x G1 H1 e1 i_ r_ q=>i_.el fun σ I1 hs1 hg1=>r_.el fun v rv ru=> ?_)
 obtain⟨a,cn,y,rfl,hG,hw,q⟩:=q
 cases (show v= .ref a from rv)
 obtain rfl:u=Value.ref a:=ru
 obtain⟨ob,C',uo,h1,h2,h3,hnc,hwh⟩:=(show ∃ob C u,H1 a=some (.frz ob u)/\ob.cls= .ref C/\PySem.W.nsIn X.K mainGlobals (nmOf cn)=some (some (.ref C))/\PySem.W.notCls ob=true/\WhyH H1 (jKe cn) ob.dict from hg1 a _ hG)
 rw[whyNm hw] at h3
 cases hC.one h3
 obtain⟨dx,od,hdx,hHd⟩:=hwh y hw
 obtain⟨ho,_⟩:=(show s1.heap.get? a=some ob/\_ from I1.hok a _ h1)
 obtain⟨hod,mA,ns,rel⟩:=(show s1.heap.get? dx=some od/\∃mA,s1.heap.Ns1 dx mA/\∀f,RelO (([("why",V.str y)]:List (Str×V)).lookup f) (mA f) from I1.hok dx _ hHd)
 obtain⟨od',hod',hl⟩:=jZ8 ns
 have J:InstAt s1.heap a ob C (some od'):=⟨ho,h2,hnc,by rw[hdx];exact hod'⟩
 obtain⟨u',hu',ru'⟩:=RelO.some_of (v:= .str y) (o:=mA "why") (by have q:=rel "why"; rw[show List.lookup ("why":Str) ([("why",V.str y)]:List (Str×V))=some (.str y) by simp only[List.lookup,beq_self_eq_true]] at q;exact q)
 exact kXh I1.kIn J hga hgt hbe (PySem.W.findObj_own hd hn rfl (by rw[hl,hu'])) (kJe ru') ⟨.str y,G1,H1,e1,⟨σ,I1.tok _,hs1,hg1⟩,⟨.str y,rfl,ru'⟩,q⟩
theorem cxOfN {K:PySem.W.Frag}(h:jKe cn=none)(q:CN K cn C):CX K cn C:=cx_of h q
theorem subW {K:PySem.W.Frag}{c:Str}{bs es:List Str}(h:∀cn,cn∈bs->ExSub K mg cn c true)(hd:es.all (fun cn=>bs.contains (nmOf cn)&&(nmOf (nmOf cn) == nmOf cn))=true):∀cn,cn∈es->ExSub K mg cn c true:=fun cn z=>by
 have q:=List.all_eq_true.mp hd cn z
 rw[Bool.and_eq_true,List.contains_iff_mem,beq_iff_eq] at q
 obtain⟨C,D,a,b⟩:=(h _ q.1).ex
 exact⟨C,D,by unfold CX at a ⊢; rw[q.2] at a;exact a,b⟩
theorem relW {K:PySem.W.Frag}{cs:List Str}{bs es:List (Str×Bool)}(h:∀cn b,(cn,b)∈bs->IsX K mg cs cn b)(hd:es.all (fun p=>bs.contains (nmOf p.1,p.2)&&(nmOf (nmOf p.1) == nmOf p.1))=true):∀cn b,(cn,b)∈es->IsX K mg cs cn b:=fun cn b z=>by
 have q:=List.all_eq_true.mp hd (cn,b) z
 rw[Bool.and_eq_true,List.contains_iff_mem,beq_iff_eq] at q
 obtain⟨D,vs,a,r⟩:=(h _ _ q.1).ex
 exact⟨D,vs,by unfold CX at a ⊢; rw[q.2] at a;exact a,r⟩
theorem exwhy_mk {K:PySem.W.Frag}{nm:Str}(a:nsIn K mainGlobals nm=some (some (.ref C)))(ga:findIn K (.ref C) "__getattribute__"=some (some (.builtin "BaseException.__getattribute__")))(gt:findIn K (.ref C) "__getattr__"=some none)(be:mroIn K C (.type "BaseException")=some true)(hd:hasDictIn K C=true)(n:findIn K (.ref C) "why"=some none):ExWhy K nm:=⟨C,a,ga,gt,be,hd,n⟩
structure ExT (st:Stmt) (bn v1 v2 v3:Str):Prop where
 sc:FnScope [v1,v2,v3] [v1,v2,v3] (jJd st)
 body:∃p1 p2 p3 p4 p5 p6 p7 p8 p9 p10,jJx st=[.Expr (.Call (.Attribute (.Name bn p1) "__init__" p2) [.Name v1 p3,.Name v2 p4] [] p5) p6,.Assign [.Attribute (.Name v1 p7) "why" p8] (.Name v3 p9) p10]/\
  ∀env:Env,∃pl:Sem Bool,eval (.Call (.Attribute (.Name bn p1) "__init__" p2) [.Name v1 p3,.Name v2 p4] [] p5) env=(do
   let ov <-eval (.Name bn p1) env
   standAt p2.atName
   let (f,first) <-holding [ov] (getMethod ov "__init__" pl)
   callWith p5 f first (backTo p5 (starEach [.Name v1 p3,.Name v2 p4] env)) (backToKw p5 (keywordEach [] env)))
 n1:(jJd st).names.lookup v1=some .local
 n2:(jJd st).names.lookup v2=some .local
 n3:(jJd st).names.lookup v3=some .local
 nb:(jJd st).names.lookup bn=some .globalImplicit
 d1:(v1 == ("__debug__":Str))=false/\(v1 == ("__classdict__":Str))=false
 d2:(v2 == ("__debug__":Str))=false/\(v2 == ("__classdict__":Str))=false
 d3:(v3 == ("__debug__":Str))=false/\(v3 == ("__classdict__":Str))=false
 db:(bn == ("__debug__":Str))=false
 bd:∀(qual:Str) (kV doc pm:Value) (an:Option Addr) (cdv ct:Value) (us:List Value),us.length=3->bindArgs (PySem.W.fnOf "__init__" qual (jKp st) (jJx st) (jJd st) .none kV doc pm an cdv ct) ⟨us,[]⟩=pure ([v1,v2,v3].zip us)
theorem exi_mk {K:PySem.W.Frag}{nm:Str}{W:Addr}{od an:Option Addr}{osl:Array (Option Value)}{kV doc pm cdv ct:Value}{cd:ClassData}(X:K.In h)(G:h.Ns mainGlobals mg)(T:ExT st bn v1 v2 v3)(a:nsIn K mainGlobals nm=some (some (.ref C)))(_:clsIn K C=some cd)(_:nsIn K cd.ns "__init__"=some (some (.ref fI)))(q:kZr K C fI vmro "ValueError.__new__"=true)(b:nsIn K mainGlobals bn=some (some (.ref W)))(rd:readsIn K W (.type "type")=true)(sp:specialIn K (.ref W) "__getattribute__"=some (some (.builtin "type.__getattribute__")))(fc:findCls K (.ref W) (.type "type") "__init__"=some (.val (.builtin "ValueError.__init__")))(pv:kQa K C=true)(tk:takerIn K C "why"=some none)(sa:findIn K (.ref C) "__setattr__"=some (some (.builtin "object.__setattr__")))(l:K.lookup fI=some ⟨.type "function",od,.func (PySem.W.fnOf "__init__" qual (jKp st) (jJx st) (jJd st) .none kV doc pm an cdv ct),osl⟩)(c:PySem.W.codeIn K cdv qual=true)(k:PySem.W.keepIn K (.ref fI)=true):
  ∀(P:Program) (w:World) (base:Heap) (k:Nat),ExI P w K mg base (k+1) nm:=by
 intro P w base k'
 have F:Fun K "__init__" qual st fI _:=kQm l c k
 obtain⟨p1,p2,p3,p4,p5,p6,p7,p8,p9,p10,hb,ht⟩:=T.body
 obtain⟨bm,N,nm',qn,bs,hdct,sn,sub,ab,col,dd,k0,k1,k2,k3,k5,hC0,hok,hni,htl⟩:=qJi q
 have TI:XI K mg bn "why" C W:=⟨mg_of X G b,rd,sp,fc,pv,tk,sa,⟨bm,N,nm',qn,bs,hdct,sn,sub,ab,col,dd,k0,k1,k2,k3,k5,_,hC0,htl⟩⟩
 refine⟨C,fI,_,_,_,a,mg_of X G a,qKs (k:=k') TI F T.sc hb (fun X hs hN=>⟨fun p=>jZ0 (by rw[hN];rfl) (by rw[hs];exact .inl T.n1) T.d1.1 T.d1.2,fun p=>jZ0 (by rw[hN];rfl) (by rw[hs];exact .inl T.n2) T.d2.1 T.d2.2,fun p=>jZ0 (by rw[hN];rfl) (by rw[hs];exact .inl T.n3) T.d3.1 T.d3.2⟩) (fun X hs _=>by show X.env.scope.names.lookup bn=_;rw[hs];exact T.nb) T.db ht,F.binds fun kV doc pm an cdv ct us hl=>T.bd qual kV doc pm an cdv ct us hl,l,rfl,q⟩
end L3
namespace W
open PySem L3
local macro_rules
 | `(tactic| wp_walk using 1, $ts,*) => do
  let ls ← ts.getElems.mapM fun t => `(Lean.Parser.Tactic.simpLemma| $t:term)
  let ns ← ("tSeq tIfS jJq tOp rGt rLt rGe rSub L3.rI0 L3.rI rIxF tVar tC tAsg tCB jJa tNil kKc rLen rAbs rMax jQt gTup jQ3 gNil gSub jJl jVt tRet tRetN jJ5 jXb jJr tLst tTup tIf tNot tAnd tOr qJs tOrV tNotV tPar jKu jVu rMod rFdiv rPow rIsN jZy kJd tTru rTru truT tUn rNeg kZ3 kZd kZf kZe qKy qKz qKm qKn at0 at1 at2 ix30 ix31 ix32 kYs kYr qKo kYt Option.map_some and_assoc T.int.injEq T.bl.injEq T.tup.injEq T.ref.injEq List.cons.injEq and_true true_and exists_eq_left exists_eq_left' exists_and_left exists_eq_right List.getElem?_cons_zero List.getElem?_cons_succ List.set_cons_zero List.set_cons_succ List.length_cons List.length_nil Nat.reduceAdd Option.some.injEq jJg jUp reduceCtorEq false_and exists_false exists_const Bool.true_eq Bool.not_eq_true' Bool.not_true Bool.not_false if_true if_false decide_eq_true_eq tBM jQn qJ3 jQm kYo kQ2 GO.lst.injEq msk List.zipWith_cons_cons List.zipWith_nil_left List.zipWith_nil_right Bool.false_eq_true qJn".splitOn " ").toArray.mapM fun n => `(Lean.Parser.Tactic.simpLemma| $(Lean.mkIdent n.toName):term)
  let al:=ns++ls
  `(tactic| ((try dsimp only [$al,*]); (try simp only [$al,*])))
local macro_rules
 | `(tactic| omega) => `(tactic| first | exact szle rfl | lia)
def jK2 (G:Gp)(b:Addr)(n:Nat):Prop:=∃x y z:Int,G b=some (.lst [.int x,.int y,.int z])/\0<=x/\0<=y/\y<2147483648/\0<=z/\z<=n
def Keep (b:Addr)(G G':Gp):Prop:=∀c o,c≠b->G c=some o->G' c=some o
theorem Keep.refl (b:Addr)(G:Gp):Keep b G G:=fun _ _ _ h=>h
variable {b:Addr}{G G1 G2:Gp}
theorem Keep.trans (h:Keep b G G1)(h':Keep b G1 G2):Keep b G G2:=fun c o hc e=>h' c o hc (h c o hc e)
theorem Keep.gup {o:GO}:Keep b G (gup G b o):=fun c u hc e=>by rw[jJi hc];exact e
variable {p:Addr}
theorem Keep.new {o:GO}(hp:G p=none):Keep b G (L3.gup G p o):=fun c u _ e=>by rw[jJi];exact e;rintro rfl;rw[hp] at e;cases e
abbrev jU7 (ns:List Int):List T:=ns.map T.int
theorem sz:sizeLine=16777216:=PySem.sizeLine_eq
abbrev Web:=List (List (Nat×Nat))
def encE (e:Nat×Nat):T:= .tup [.int e.1,.int e.2]
def en (W:Web)(r i:Nat):Option (Nat×Nat):=(W[r]?).bind fun es=>es[i]?
def sw:Nat->Nat
 | 0=>1
 | 1=>0
 | n=>n
def keyE (e:Nat×Nat):L2.TKey:=[.inl (.inl (e.1:Int)),.inl (.inl (e.2:Int))]
theorem jVz {κ:Type}[DecidableEq κ](kvs:List (κ×T))(k j:κ)(v:T):valT (putT kvs k v) j=if k=j then some v else valT kvs j:=by
 unfold putT valT
 by_cases h:(kvs.any fun kv=>decide (kv.1=k))=true
 ·rw[if_pos h]
  induction kvs with
  | nil=>simp at h
  | cons p ps ih=>
   rw[List.map_cons,List.find?_cons,List.find?_cons]
   by_cases hp:p.1=k
   ·rw[if_pos hp]
    by_cases hj:k=j
    ·simp[hp,hj]
    ·have h1:¬ p.1=j:=fun z=>hj (hp.symm.trans z)
     simp only[h1,decide_false,hj,if_false]
     by_cases h2:(ps.any fun kv=>decide (kv.1=k))=true
     ·have:=ih h2;rw[if_neg hj] at this;exact this
     ·have hm:ps.map (fun kv=>if kv.1=k then (kv.1,v) else kv)=ps:=by
       rw[List.map_congr_left (g:=id)];· simp
       intro a ha
       have:¬ a.1=k:=fun z=>h2 (List.any_eq_true.mpr ⟨a,ha,by simp[z]⟩)
       simp[this]
      rw[hm]
   ·rw[if_neg hp]
    have h2:(ps.any fun kv=>decide (kv.1=k))=true:=by
     rw[List.any_cons,decide_eq_false hp,Bool.false_or] at h;exact h
    have:=ih h2
    by_cases hj:p.1=j
    ·have:¬ k=j:=fun z=>hp (hj.trans z.symm)
     simp[hj,this]
    ·simp only[hj,decide_false];exact this
 ·rw[if_neg h,List.find?_append]
  have hn:(kvs.find? fun kv=>decide (kv.1=j))=none\/∃p,(kvs.find? fun kv=>decide (kv.1=j))=some p:=by
   cases kvs.find? fun kv=>decide (kv.1=j) with
   | none=>exact .inl rfl
   | some p=>exact .inr ⟨p,rfl⟩
  by_cases hj:k=j
  ·subst hj
   have:(kvs.find? fun kv=>decide (kv.1=k))=none:=by
    rw[List.find?_eq_none]
    intro a ha z
    exact h (List.any_eq_true.mpr ⟨a,ha,z⟩)
   simp[this]
  ·rcases hn with e | ⟨p,e⟩
   ·simp[e,hj]
   ·simp[e,hj]
theorem jQ6 {κ:Type}[DecidableEq κ](kvs:List (κ×T))(k:κ)(v:T):(putT kvs k v).length<=kvs.length+1:=by
 unfold putT;split<;>simp
variable {v:T}
theorem jV1 {kvs:List (L2.TKey×T)}{ys:List T}{ks:L2.TKey}(h:G p=some (.dct kvs))(hk:jXv ys=some ks)(hz:kvs.length<sizeLine):setR G (.ref p) (.tup ys) v=some (gup G p (.dct (putT kvs ks v))):=by
 simp only[setR,h,hk,hz,if_true]
open Classical in
def oth (Hs:Web)(e:Nat×Nat):Nat×Nat:=if h:∃p:Nat×Nat,en Hs p.1 p.2=some (e.1,sw e.2) then h.choose else (0,0)
def hv (n t:Nat)(p:Nat×Nat):List (Nat×Nat×Nat):=if p.2=n then [(p.1,t,2)] else [(p.1,t,0),(p.2,t,1)]
theorem jQ4 {n:Nat}:rngT 0 n=(List.range n).map fun (k:Nat)=>T.int k:=by simp[rngT]
def jK8 (F:List Nat):List T:=F.map fun e=>T.int (e:Nat)
theorem jKw:∀ {n:Nat} {F:List Nat} (hn:F.Nodup) (hl:∀x,x∈F->x<n),F.length<=n
 | 0,F,hn,hl=>by
  cases F with
  | nil=>exact Nat.le_refl _
  | cons a as=>exact absurd (hl a (List.mem_cons_self)) (Nat.not_lt_zero _)
 | n+1,F,hn,hl=>by
  have h1:=jKw (n:=n) (hn.erase n) (fun x hx=>by
   rw[hn.mem_erase_iff] at hx
   have:=hl x hx.2;omega)
  by_cases h:n∈F
  ·rw[List.length_erase_of_mem h] at h1;omega
  ·rw[List.erase_of_not_mem h] at h1;omega
def vis (F:List Nat)(es:List (Nat×Nat)):List Nat:=es.foldl (fun F e=>if F.contains e.1=true then F else F++[e.1]) F
def cl (M:List (List T))(x i:Nat):Option T:=(M[x]?).bind fun ts=>ts[i]?
def put (M:List (List T))(x i:Nat)(v:T):List (List T):=match M[x]? with
 | some ts=>M.set x (ts.set i v)
 | none=>M
theorem jZg {e f:Nat×Nat}:eqG G (encE e) (encE f)=some (decide (e=f)):=by
 obtain⟨a,b⟩:=e;obtain⟨c,d⟩:=f
 rw[show eqG G (encE (a,b)) (encE (c,d))=some (eqT (encE (a,b)) (encE (c,d))) from rfl]
 congr 1
 simp only[encE,eqT,eqTs,Bool.and_true]
 by_cases h1:a=c
 ·by_cases h2:b=d
  ·simp[h1,h2]
  ·have:¬ (b:Int)=d:=by omega
   simp[h1,h2,this]
 ·have:¬ (a:Int)=c:=by omega
  simp[h1,this]
theorem jXz {a c:Nat}:eqG G (.int a) (.int c)=some (decide (a=c)):=by
 rw[show eqG G (.int a) (.int c)=some (eqT (.int a) (.int c)) from rfl]
 congr 1
 simp only[eqT]
 by_cases h1:a=c
 ·simp[h1]
 ·have:¬ (a:Int)=c:=by omega
  simp[h1,this]
abbrev RdOk (sp:Sp3)(rd:TS3)(N:List Str):Prop:=∀xs G Q,sp xs G Q->rd {nx:=fun _ G'=>Q .non G',rt:=Q} (jK3 N xs) G
noncomputable def jJf:Sp3:=fun xs G Q=>∃(b:Addr) (m:Int) (n:Nat),xs=[.ref b,.int m]/\jK2 G b n/\n<2^40/\1<=m/\m<2^29/\∀(r:Int) G',0<=r->r<m->jK2 G' b (n+1)->Keep b G G'->Q (.int r) G'
def kZ5:List Str:=["_law_box_here","_law_many","_law_found","_law_once"]
noncomputable def jXj:TS3:=
 (tSeq (tIfS (jJq (tOp rGt (tOp rIxF (tVar 0) (tC (.int 0))) (tC (.int 0)))) (tSeq (tAsg (tCB kKc (jJa (tOp rIxF (tVar 0) (tC (.int 0))) (jJa (tVar 1) tNil))) (gTup 2 (jQ3 (gSub (tVar 0) (tC (.int 0)) jVt) (jQ3 (jJl 2) gNil))))
 (tRet (tVar 2))) jJ5)
 (tSeq (tAsg (tOp jKu (tOp rIxF (tVar 0) (tC (.int 2))) (tC (.int 1))) (gSub (tVar 0) (tC (.int 2)) jVt))
 (tSeq (tAsg (tOp rMod (tOp jVu (tOp jKu (tOp rIxF (tVar 0) (tC (.int 1))) (tOp jVu (tC (.int 39373)) (tOp rIxF (tVar 0) (tC (.int 2))))) (tOp jKu (tC (.int 48271)) (tOp rIxF (tVar 0) (tC (.int 2))))) (tC (.int 2147483647))) (jJl 3))
 (tSeq (tAsg (tOp rMod (tOp jKu (tOp jVu (tVar 3) (tOp jKu (tOp rMod (tVar 3) (tC (.int 40009))) (tC (.int 7)))) (tOp rIxF (tVar 0) (tC (.int 2)))) (tC (.int 2147483629))) (gSub (tVar 0) (tC (.int 1)) jVt))
 (tRet (tOp rMod (tOp rFdiv (tOp rMod (tOp jVu (tOp rIxF (tVar 0) (tC (.int 1))) (tOp jKu (tOp rMod (tOp rIxF (tVar 0) (tC (.int 1))) (tC (.int 1009))) (tC (.int 3)))) (tC (.int 998244353))) (tC (.int 7))) (tVar 1)))))))
theorem kJ4:RdOk jJf jXj kZ5:=by
 intro xs G Q h_;apply xe3 h_;clear h_;intro b m n h_;apply ae5 h_;clear h_;intro q0_ hn hm1 hm2 k
 obtain⟨x,y,z,hb,hx,hy0,hy1,hz0,hz1⟩:=q0_
 show jXj _ [some (.ref b),some (.int m),none,none] G
 wp_walk using 1,jXj,jUo hb,kZ9 hb
 have box:∀x' y' z':Int,0<=x'->0<=y'->y'<2147483648->0<=z'->z'<=n+1->jK2 (gup G b (.lst [.int x',.int y',.int z'])) b (n+1):=fun x' y' z' h1 h2 h3 h4 h5=>⟨x',y',z',jJg,h1,h2,h3,h4,by omega⟩
 split
 ·refine⟨⟨by omega,by omega⟩,k _ _ (Int.emod_nonneg _ (by omega)) (Int.emod_lt_of_pos _ (by omega)) (box _ _ _ (Int.ediv_nonneg hx (by omega)) hy0 hy1 hz0 (by omega)) .gup⟩
 ·have a0:=Int.emod_nonneg ((y+39373*(z+1))*(48271+(z+1))) (b:=2147483647) (by decide)
  have a1:=Int.emod_lt_of_pos ((y+39373*(z+1))*(48271+(z+1))) (b:=2147483647) (by decide)
  refine⟨.inl (by decide),.inr ⟨by omega,by omega⟩,by decide,by decide,?_⟩
  generalize (y+39373*(z+1))*(48271+(z+1))%2147483647=u at a0 a1 ⊢
  have b0:=Int.emod_nonneg (u*(u%40009+7)+(z+1)) (b:=2147483629) (by decide)
  have b1:=Int.emod_lt_of_pos (u*(u%40009+7)+(z+1)) (b:=2147483629) (by decide)
  refine⟨.inl ⟨by omega,by omega⟩,by decide,by decide,?_⟩
  generalize (u*(u%40009+7)+(z+1))%2147483629=v at b0 b1 ⊢
  refine⟨.inl ⟨by omega,by omega⟩,by decide,⟨by decide,by decide⟩,by omega,?_⟩
  exact k _ _ (Int.emod_nonneg _ (by omega)) (Int.emod_lt_of_pos _ (by omega)) (box _ _ _ hx b0 (by omega) (by omega) (by omega)) .gup
def jV0:Sp3:=fun xs G Q=>∃(ns:List Int) (k:Int),xs=[.scr (jU7 ns),.int k]/\ns.length<=63/\0<=k/\k<100/\∀p G',G p=none->jK2 G' p 0->Sub G G'->Q (.ref p) G'
def qQf:List Str:=["_law_script","_law_k","_law_cell"]
noncomputable def jY3:TS3:=
 (tSeq (tAsg (tOp rIxF (tOp rAddS (tVar 0) (tOp jVu (tLst (jJa (tC (.int 0)) tNil)) (tOp jKu (tVar 1) (tC (.int 1))))) (tVar 1)) (jJl 2))
 (tRet (tLst (jJa (tOp jVu (tCB rAbs (jJa (tVar 2) tNil)) (tCB jQt (jJa (tOp rGe (tCB rAbs (jJa (tVar 2) tNil)) (tOp rPow (tC (.int 10)) (tC (.int 18)))) tNil))) (jJa (tOp rMod (tOp jVu (tOp jKu (tOp jKu (tOp rMod (tVar 2) (tC (.int 2147483647))) (tOp jVu (tC (.int 7919)) (tVar 1))) (tC (.int 11))) (tC (.int 48271))) (tC (.int 2147483629))) (jJa (tC (.int 0)) tNil))))))
theorem kQ7:RdOk jV0 jY3 qQf:=by
 intro xs G Q h_;apply xe2 h_;clear h_;intro ns k h_;apply ae4 h_;clear h_;intro hl hk0 hk1 kk
 show jY3 _ [some (.scr (jU7 ns)),some (.int k),none] G
 have hs:=sz
 wp_walk using 1,jY3
 refine⟨by omega,fun p hp=> ?_⟩
 have e1:mulR (gup G p (GO.lst [T.int 0])) (.ref p) (.int (k+1))=some (.newL (List.replicate (k+1).toNat [T.int 0]).flatten):=by
  simp only[mulR,jJg];rw[if_pos];refine⟨?_,?_,?_⟩<;>simp<;>omega
 wp_walk using 1,e1
 intro q hq
 obtain⟨hqp,hq0⟩:=jJt hq
 have hfl:(List.replicate (k+1).toNat [T.int 0]).flatten=List.replicate (k+1).toNat (T.int 0):=by
  induction (k+1).toNat with
  | zero=>rfl
  | succ n ih=>rw[List.replicate_succ,List.flatten_cons,ih];rfl
 refine⟨_,show asL (gup _ q _ q)=_ by rw[jJg];rfl,by rw[hfl];simp;omega,?_⟩
 intro r hr
 obtain⟨hrq,hr1⟩:=jJt hr
 obtain⟨hrp,hr0⟩:=jJt hr1
 obtain⟨v,hv⟩:∃v:Int,L2.atI (jU7 ns++(List.replicate (k+1).toNat [T.int 0]).flatten) k=some (.int v):=by
  rw[atZ hk0,hfl]
  by_cases h:k.toNat<ns.length
  ·rw[List.getElem?_append_left (by simpa using h)]
   exact⟨ns[k.toNat],by simp[h]⟩
  ·rw[List.getElem?_append_right (by simpa using h),List.getElem?_replicate]
   exact⟨0,by rw[if_pos];simp;omega⟩
 wp_walk using 1,hv
 refine⟨⟨by decide,by decide,by decide⟩,.inr (by split<;>split<;>decide),by decide,.inl (by decide),.inr (by decide),by decide,by omega,fun b hbn=> ?_⟩
 obtain⟨hbr,hb1⟩:=jJt hbn
 obtain⟨hbq,hb2⟩:=jJt hb1
 obtain⟨hbp,hb0⟩:=jJt hb2
 refine kk b _ hb0 ⟨_,_,_,jJg,Int.mul_nonneg (by split<;>omega) (by split<;>split<;>decide),Int.emod_nonneg _ (by decide),?_,Int.le_refl _,by simp⟩ ((((Sub.new hp).over hq0).over hr0).over hb0)
 have:=Int.emod_lt_of_pos ((v%2147483647+7919*k+11)*48271) (b:=2147483629) (by decide)
 omega
def abcS:Str:=PySem.Str.ofString "abcdefghijklmnopqrstuvwxyz"
def letS (r:Nat):Str:=⟨#[(abcS.cps[(r*7+3)%26]?).getD 0]⟩
def mulS (r:Nat):Nat:=([1,3,1,8,2]:List Nat).getD (r%5) 0
def mkS (r:Nat):Str:=kU5 (letS r) (mulS r)
theorem kVt:((List.range 24).map mkS).Nodup:=by decide +kernel
variable {r r':Nat}
theorem jZ6 (h:r<24)(h':r'<24)(e:mkS r=mkS r'):r=r':=by
 have:=(List.getElem_inj (i:=r) (j:=r') (h₀:=by simpa using h) (h₁:=by simpa using h') kVt).mp (by simpa using e)
 exact this
def encM (e:Nat×Nat):T:= .tup [.str (mkS e.1),.int e.2]
def keyM (e:Nat×Nat):L2.TKey:=[.inl (.inr (mkS e.1)),.inl (.inl (e.2:Int))]
theorem qKj (r d:Nat):jXv [.str (mkS r),.int (d:Nat)]=some (keyM (r,d)):=rfl
variable {q:Nat×Nat}
theorem kQi {p:Nat×Nat}(hp:p.1<24)(hq:q.1<24)(h:keyM p=keyM q):p=q:=by
 unfold keyM at h
 simp only[List.cons.injEq,Sum.inl.injEq,Sum.inr.injEq,and_true] at h
 have h1:=jZ6 hp hq h.1
 have h2:p.2=q.2:=by exact_mod_cast h.2
 exact Prod.ext h1 h2
theorem jXx {p:Nat×Nat}(h:keyE p=keyE q):p=q:=by
 unfold keyE at h
 simp only[List.cons.injEq,Sum.inl.injEq,and_true] at h
 exact Prod.ext (by exact_mod_cast h.1) (by exact_mod_cast h.2)
structure CS where
 ms:List Nat
 ct:List Nat
 E:Nat×Nat->Option (Nat×Nat)
 pl:Nat
 n:Nat
structure CS.Ok (s:CS):Prop where
 nd:s.ms.Nodup
 lt:∀r,r∈s.ms->r<24
 len:s.ct.length=s.ms.length
 dg:∀c,c∈s.ct->c<12
 pl:s.pl<s.ms.length
 e0:∀p q,s.E p=some q->p.1∈s.ms
 e1:∀p q,s.E p=some q->q.1∈s.ms
def CS.at_ (s:CS):Nat:=s.ms.getD s.pl 0
variable {s:CS}
theorem CS.Ok.at_ (h:s.Ok):s.ms[s.pl]? =some s.at_:=by
 unfold CS.at_
 rw[List.getD_eq_getElem?_getD,List.getElem?_eq_getElem h.pl];rfl
variable {ms:List Nat}{i:Nat}
theorem kJc (nd:ms.Nodup)(h:ms[i]? =some r):ms.idxOf r=i:=by
 (obtain⟨hi,e⟩:=List.getElem?_eq_some_iff.mp h)
 have hm:r∈ms:=List.mem_of_getElem? h
 have h1:ms.idxOf r<ms.length:=List.idxOf_lt_length_of_mem hm
 have h2:ms[ms.idxOf r]=r:=List.getElem_idxOf h1
 exact (List.getElem_inj (h₀:=h1) (h₁:=hi) nd).mp (h2.trans e.symm)
theorem jU6 (h:r∈ms):ms[ms.idxOf r]? =some r:=by
 have h1:=List.idxOf_lt_length_of_mem h
 rw[List.getElem?_eq_getElem h1,List.getElem_idxOf h1]
theorem kZo (h:r∈ms):ms.idxOf r<ms.length:=List.idxOf_lt_length_of_mem h
theorem kJb (h:r∉ms):ms.idxOf r=ms.length:=List.idxOf_eq_length h
def addR (ms:List Nat)(r:Nat):List Nat:=if r∈ms then ms else ms++[r]
def addC (ms ct:List Nat)(r k:Nat):List Nat:=if r∈ms then ct else ct++[k]
variable {x:Nat}
theorem jZn (h:ms[i]? =some x):(addR ms r)[i]? =some x:=by
 unfold addR
 split
 ·exact h
 ·rw[List.getElem?_append_left (List.getElem?_eq_some_iff.mp h).1];exact h
theorem addR_mem:x∈addR ms r↔x∈ms\/x=r:=by
 unfold addR
 split
 ·exact⟨.inl,fun h=>h.elim id fun e=>e▸ ‹_›⟩
 ·simp
theorem jZm (h:ms.Nodup):(addR ms r).Nodup:=by
 unfold addR
 split
 ·exact h
 ·rename_i hr
  exact List.nodup_append.mpr ⟨h,by simp,fun a ha b hb e=>hr (by rw[List.mem_singleton] at hb;rw[<-hb,<-e];exact ha)⟩
theorem kKy (nd:ms.Nodup)(h:x∈ms):(addR ms r).idxOf x=ms.idxOf x:=kJc (jZm nd) (jZn (jU6 h))
theorem jU9 (nd:ms.Nodup):(addR ms r).idxOf r=ms.idxOf r:=by
 by_cases h:r∈ms
 ·exact kKy nd h
 ·rw[kJb h]
  exact kJc (jZm nd) (by unfold addR;rw[if_neg h];simp)
def tieE (E:Nat×Nat->Option (Nat×Nat))(p q:Nat×Nat):Nat×Nat->Option (Nat×Nat):=fun x=>if x=q then some p else if x=p then some q else E x
def goC (s:CS)(d c r k:Nat):CS:=⟨addR s.ms r,addC s.ms s.ct r k,tieE s.E (s.at_,d) (r,c),s.ms.idxOf r,s.n+1⟩
theorem CS.Ok.mem (h:s.Ok):s.at_∈s.ms:=List.mem_of_getElem? h.at_
variable {d:Nat}
theorem CS.Ok.go (h:s.Ok){c k:Nat}(hr:r<24)(hk:k<12):(goC s d c r k).Ok where
 nd:=jZm h.nd
 lt:=fun x hx=>(addR_mem.mp hx).elim (h.lt x) fun e=>e▸hr
 len:=by
  show (addC s.ms s.ct r k).length=(addR s.ms r).length
  unfold addC addR
  split
  ·exact h.len
  ·simp[h.len]
 dg:=fun x hx=>by
  unfold goC addC at hx
  dsimp only at hx
  split at hx
  ·exact h.dg x hx
  ·rcases (List.mem_append.mp hx) with z | z
   ·exact h.dg x z
   ·rw[List.mem_singleton] at z;omega
 pl:=by
  show s.ms.idxOf r<(addR s.ms r).length
  rw[<-jU9 h.nd]
  exact kZo (addR_mem.mpr (.inr rfl))
 e0:=fun p q e=>by
  refine addR_mem.mpr ?_
  unfold goC tieE at e
  dsimp only at e
  split at e
  ·rename_i z;exact .inr (by rw[z])
  ·split at e
   ·rename_i z;exact .inl (by rw[z];exact h.mem)
   ·exact .inl (h.e0 p q e)
 e1:=fun p q e=>by
  refine addR_mem.mpr ?_
  unfold goC tieE at e
  dsimp only at e
  split at e
  ·cases e;exact .inl h.mem
  ·split at e
   ·cases e;exact .inr rfl
   ·exact .inl (h.e1 p q e)
theorem goC_at (h:s.Ok){c k:Nat}:(goC s d c r k).at_=r:=by
 have h1:(addR s.ms r)[s.ms.idxOf r]? =some r:=by rw[<-jU9 h.nd];exact jU6 (addR_mem.mpr (.inr rfl))
 show (addR s.ms r).getD (s.ms.idxOf r) 0=r
 rw[List.getD_eq_getElem?_getD,h1];rfl
abbrev Kvs:=List (L2.TKey×T)
def kv1 (kvs:Kvs)(a b:Nat×Nat):Kvs:=putT (putT kvs (keyE a) (encE b)) (keyE b) (encE a)
def ev1 (kvs:Kvs)(a b:Nat×Nat):Kvs:=putT (putT kvs (keyM a) (encM b)) (keyM b) (encM a)
structure LdOk (s:CS) (kvs:Kvs):Prop where
 ks:∀x,x∈kvs->∃i d:Nat,i<s.ms.length/\d<12/\x.1=keyE (i,d)
 val:∀i r d:Nat,s.ms[i]? =some r->valT kvs (keyE (i,d))=(s.E (r,d)).map fun e=>encE (s.ms.idxOf e.1,e.2)
 len:kvs.length<=2*s.n
structure EnOk (s:CS) (kvs:Kvs):Prop where
 ks:∀x,x∈kvs->∃p:Nat×Nat,x.1=keyM p
 val:∀r d:Nat,r<24->valT kvs (keyM (r,d))=(s.E (r,d)).map encM
 len:kvs.length<=2*s.n
theorem jUz {κ:Type}[DecidableEq κ]{P:κ->Prop}{kvs:List (κ×T)}{k:κ}(h:∀x,x∈kvs->P x.1)(hk:P k):∀x,x∈putT kvs k v->P x.1:=by
 intro x hx
 unfold putT at hx
 split at hx
 ·obtain⟨y,hy,rfl⟩:=List.mem_map.mp hx
  split
  ·exact h y hy
  ·exact h y hy
 ·rcases (List.mem_append.mp hx) with z | z
  ·exact h x z
  ·rw[List.mem_singleton] at z;rw[z];exact hk
theorem kK2 {κ:Type}[DecidableEq κ]{kvs:List (κ×T)}{k:κ}(h:∀x,x∈kvs->x.1≠k):valT kvs k=none:=by
 unfold valT
 rw[List.find?_eq_none.mpr fun x hx=>by simpa using h x hx];rfl
variable {kvs:Kvs}
theorem LdOk.off (h:LdOk s kvs)(hi:s.ms.length<=i):valT kvs (keyE (i,d))=none:=kK2 fun x hx e=>by
 obtain⟨i',d',h1,_,h3⟩:=h.ks x hx
 have:=congrArg Prod.fst (jXx (h3.symm.trans e))
 simp at this;omega
theorem LdOk.go (o:s.Ok)(h:LdOk s kvs){c k:Nat}(hr:r<24)(hd:d<12)(hc:c<12):LdOk (goC s d c r k) (kv1 kvs (s.pl,d) (s.ms.idxOf r,c)) where
 ks:=by
  have hl:s.ms.length<=(addR s.ms r).length:=by unfold addR;split<;>simp
  have h2:s.ms.idxOf r<(addR s.ms r).length:=by rw[<-jU9 o.nd];exact kZo (addR_mem.mpr (.inr rfl))
  refine jUz (P:=fun k=>∃i d:Nat,i<(addR s.ms r).length/\d<12/\k=keyE (i,d)) (jUz (P:=fun k=>∃i d:Nat,i<(addR s.ms r).length/\d<12/\k=keyE (i,d)) (fun x hx=> ?_) ⟨_,_,Nat.lt_of_lt_of_le o.pl hl,hd,rfl⟩) ⟨_,_,h2,hc,rfl⟩
  obtain⟨i,d,a,b,e⟩:=h.ks x hx
  exact⟨i,d,Nat.lt_of_lt_of_le a hl,b,e⟩
 val:=fun i r' d' hi=>by
  have nd':=jZm (r:=r) o.nd
  have hi':(addR s.ms r).idxOf r'=i:=kJc nd' hi
  have hat:(addR s.ms r).idxOf s.at_=s.pl:=kJc nd' (jZn o.at_)
  have hrr:(addR s.ms r).idxOf r=s.ms.idxOf r:=jU9 o.nd
  show valT (putT (putT kvs (keyE (s.pl,d)) (encE (s.ms.idxOf r,c))) (keyE (s.ms.idxOf r,c)) (encE (s.pl,d))) (keyE (i,d'))=(tieE s.E (s.at_,d) (r,c) (r',d')).map fun e=>encE ((addR s.ms r).idxOf e.1,e.2)
  rw[jVz,jVz]
  have mi:(addR s.ms r)[i]? =some r':=hi
  have inj:∀ {x:Nat},x∈addR s.ms r->(addR s.ms r).idxOf x=i->x=r':=fun {x} hx e=>by
   have:=jU6 hx
   rw[e,mi] at this;exact (Option.some.inj this).symm
  unfold tieE
  by_cases q1:(r',d')=(r,c)
  ·rw[if_pos q1]
   cases q1
   rw[if_pos (by rw[<-hi',hrr])]
   simp[hat]
  ·rw[if_neg q1,if_neg (fun z=>q1 ?_)]
   ·by_cases q2:(r',d')=(s.at_,d)
    ·rw[if_pos q2]
     cases q2
     rw[if_pos (by rw[<-hi',hat])]
     simp[hrr]
    ·rw[if_neg q2,if_neg (fun z=>q2 ?_)]
     ·by_cases hm:r'∈s.ms
      ·have e1:s.ms.idxOf r'=i:=by rw[<-kKy o.nd hm];exact hi'
       rw[h.val i r' d' (by rw[<-e1];exact jU6 hm)]
       cases e:s.E (r',d') with
       | none=>rfl
       | some q=>simp only[Option.map_some];rw[kKy o.nd (o.e1 _ _ e)]
      ·have:s.E (r',d')=none:=by
        cases e:s.E (r',d') with
        | none=>rfl
        | some q=>exact absurd (o.e0 _ _ e) hm
       rw[this]
       refine h.off ?_
       rcases Nat.lt_or_ge i s.ms.length with z | z
       ·have:=jZn (r:=r) (List.getElem?_eq_getElem z)
        rw[mi] at this
        exact absurd (Option.some.inj this▸List.getElem_mem z) hm
       ·exact z
     ·have z':=jXx z
      have z1:s.pl=i:=congrArg Prod.fst z'
      have z2:d=d':=congrArg Prod.snd z'
      rw[<-z2,inj (addR_mem.mpr (.inl o.mem)) (hat.trans z1)]
   ·have z':=jXx z
    have z1:s.ms.idxOf r=i:=congrArg Prod.fst z'
    have z2:c=d':=congrArg Prod.snd z'
    rw[<-z2,inj (addR_mem.mpr (.inr rfl)) (hrr.trans z1)]
 len:=by
  have h1:=jQ6 kvs (keyE (s.pl,d)) (encE (s.ms.idxOf r,c))
  have h2:=jQ6 (putT kvs (keyE (s.pl,d)) (encE (s.ms.idxOf r,c))) (keyE (s.ms.idxOf r,c)) (encE (s.pl,d))
  have h3:=h.len
  show (kv1 _ _ _).length<=2*(s.n+1)
  unfold kv1;omega
theorem EnOk.go (o:s.Ok)(h:EnOk s kvs){c k:Nat}(hr:r<24):EnOk (goC s d c r k) (ev1 kvs (s.at_,d) (r,c)) where
 ks:=jUz (P:=fun y=>∃p:Nat×Nat,y=keyM p) (jUz (P:=fun y=>∃p:Nat×Nat,y=keyM p) h.ks ⟨_,rfl⟩) ⟨_,rfl⟩
 val:=fun r' d' hr'=>by
  have ha:=o.lt _ o.mem
  show valT (putT (putT kvs (keyM (s.at_,d)) (encM (r,c))) (keyM (r,c)) (encM (s.at_,d))) (keyM (r',d'))=(tieE s.E (s.at_,d) (r,c) (r',d')).map encM
  rw[jVz,jVz]
  unfold tieE
  by_cases q1:(r',d')=(r,c)
  ·rw[if_pos q1,if_pos (by rw[q1])];rfl
  ·rw[if_neg q1,if_neg fun z=>q1 (kQi hr hr' z).symm]
   by_cases q2:(r',d')=(s.at_,d)
   ·rw[if_pos q2,if_pos (by rw[q2])];rfl
   ·rw[if_neg q2,if_neg fun z=>q2 (kQi ha hr' z).symm]
    exact h.val r' d' hr'
 len:=by
  have h1:=jQ6 kvs (keyM (s.at_,d)) (encM (r,c))
  have h2:=jQ6 (putT kvs (keyM (s.at_,d)) (encM (r,c))) (keyM (r,c)) (encM (s.at_,d))
  have h3:=h.len
  show (ev1 _ _ _).length<=2*(s.n+1)
  unfold ev1;omega
def jKy:Sp3:=fun xs G Q=>∃r:Nat,xs=[.int (r:Nat)]/\r<24/\∀G',Sub G G'->Q (.str (mkS r)) G'
def kZ7:List Str:=["_law_room","_law_letter"]
noncomputable def jXl:TS3:=
 (tSeq (tAsg (tOp rIxS (tC (.str (PySem.Str.ofString "abcdefghijklmnopqrstuvwxyz"))) (tOp rMod (tOp jKu (tOp jVu (tVar 0) (tC (.int 7))) (tC (.int 3))) (tC (.int 26)))) (jJl 1))
 (tRet (tOp qJ2 (tVar 1) (tOp rIxF (tLst (jJa (tC (.int 1)) (jJa (tC (.int 3)) (jJa (tC (.int 1)) (jJa (tC (.int 8)) (jJa (tC (.int 2)) tNil)))))) (tOp rMod (tVar 0) (tC (.int 5)))))))
theorem kJ6:RdOk jKy jXl kZ7:=by
 intro xs G Q h_;apply xe1 h_;clear h_;intro r h_;apply ae2 h_;clear h_;intro hr kk
 show jXl _ [some (.int (r:Nat)),none] G
 have hs:=sz
 wp_walk using 1,jXl,rIxS,qJ2
 have hx:(r*7+3)%26<abcS.cps.size:=Nat.lt_of_lt_of_le (Nat.mod_lt _ (by decide)) (by decide +kernel)
 have hm:L2.atI [T.int 1,T.int 3,T.int 1,T.int 8,T.int 2] ((r:Int)%5)=some (.int (mulS r:Nat)):=by
  have:(r:Int)%5=((r%5:Nat):Int):=by omega
  rw[this,atN]
  unfold mulS
  have h5:r%5<5:=Nat.mod_lt _ (by decide)
  generalize r%5=x at h5
  match x,h5 with
  | 0,_=>rfl
  | 1,_=>rfl
  | 2,_=>rfl
  | 3,_=>rfl
  | 4,_=>rfl
 have hm1:1<=mulS r/\mulS r<=100:=by
  unfold mulS
  have h5:r%5<5:=Nat.mod_lt _ (by decide)
  generalize r%5=x at h5
  match x,h5 with
  | 0,_=>exact⟨by decide,by decide⟩
  | 1,_=>exact⟨by decide,by decide⟩
  | 2,_=>exact⟨by decide,by decide⟩
  | 3,_=>exact⟨by decide,by decide⟩
  | 4,_=>exact⟨by decide,by decide⟩
 refine⟨.inl (by omega),by decide,abcS,rfl,(r*7+3)%26,by omega,by omega,abcS.cps[(r*7+3)%26],Array.getElem?_eq_getElem hx,by omega,fun p hp=>⟨by decide,_,hm,_,rfl,mulS r,rfl,hm1.1,hm1.2,rfl,?_⟩⟩
 have e:(⟨#[abcS.cps[(r*7+3)%26]]⟩:Str)=letS r:=by unfold letS;rw[Array.getElem?_eq_getElem hx];rfl
 rw[e]
 exact kk _ (.new hp)
def chF (b c d:Addr)(pl:Nat):List (Str×T):=[("marks",.ref b),("counts",.ref c),("leads",.ref d),("place",.int (pl:Nat))]
def chG (b c d:Addr)(pl:Nat):GO:= .ins "Chart" (chF b c d pl)
theorem kJi {m:Str}:∀ {fs:List (Str×T)},(∀g,g∈fs.map (·.1)->¬ g=m)->fldT m fs=none
 | [],_=>rfl
 | (g,x)::r,h=>by
  rw[fldT,if_neg (h g (by simp))]
  exact kJi fun g' hg=>h g' (by rw[List.map_cons];exact List.mem_cons_of_mem _ hg)
variable {a c:Addr}{pl:Nat}
theorem jZ4 {d:Addr}{m:Str}(h:G a=some (chG b c d pl))(hm:∀g,g∈(["marks","counts","leads","place"]:List Str)->¬ g=m:=by decide +kernel):obR "Chart" m G (.ref a)=true:=by
 simp only[obR,h,chG,kJi (fs:=chF b c d pl) hm,Option.isNone_none,decide_true,Bool.and_true]
theorem q1:(("marks":Str)="counts")=False:=eq_false (by decide +kernel)
theorem q2:(("marks":Str)="leads")=False:=eq_false (by decide +kernel)
theorem q3:(("marks":Str)="place")=False:=eq_false (by decide +kernel)
theorem q4:(("counts":Str)="leads")=False:=eq_false (by decide +kernel)
theorem q5:(("counts":Str)="place")=False:=eq_false (by decide +kernel)
theorem q6:(("leads":Str)="place")=False:=eq_false (by decide +kernel)
variable {f:Str}{e:Addr}
section
variable {d:Addr}
theorem fl (h:G a=some (chG b c d pl))(hf:fldT f (chF b c d pl)=some v):fldR "Chart" f G (.ref a)=some v:=by
 simp only[fldR,h,chG,if_true,hf]
theorem fMk (h:G a=some (chG b c d pl)):fldR "Chart" "marks" G (.ref a)=some (.ref b):=fl h (by simp only[chF,fldT,if_true])
theorem fCt (h:G a=some (chG b c d pl)):fldR "Chart" "counts" G (.ref a)=some (.ref c):=fl h (by simp only[chF,fldT,if_true,q1,if_false])
theorem fLd (h:G a=some (chG b c d pl)):fldR "Chart" "leads" G (.ref a)=some (.ref d):=fl h (by simp only[chF,fldT,if_true,q2,q4,if_false])
theorem fPl (h:G a=some (chG b c d pl)):fldR "Chart" "place" G (.ref a)=some (.int (pl:Nat)):=fl h (by simp only[chF,fldT,if_true,q3,q5,q6,if_false])
theorem sf {fs:List (Str×T)}(h:G a=some (chG b c d pl))(hf:jU0 f v (chF b c d pl)=fs):jXe "Chart" f G (.ref a) v=some (gup G a (.ins "Chart" fs)):=by
 simp only[jXe,h,chG]
 rw[if_pos ⟨trivial,by simp[chF]⟩,hf]
theorem pLd (h:G a=some (chG b c d pl)):jXe "Chart" "leads" G (.ref a) (.ref e)=some (gup G a (chG b c e pl)):=sf h (by simp only[chF,jU0,if_true,q2,q4,if_false])
theorem pPl (h:G a=some (chG b c d pl)):jXe "Chart" "place" G (.ref a) (.int (r:Nat))=some (gup G a (chG b c d r)):=sf h (by simp only[chF,jU0,if_true,q3,q5,q6,if_false])
theorem setN {fs fs':List (Str×T)}(h:G a=some (.ins "Chart" fs))(hl:fs.length<1000)(hp:jU0 f v fs=fs'):jXe "Chart" f G (.ref a) v=some (gup G a (.ins "Chart" fs')):=by
 simp only[jXe,h]
 rw[if_pos ⟨trivial,hl⟩,hp]
end
def mksT (ms:List Nat):List T:=ms.map fun r=>T.str (mkS r)
structure ChAt (G:Gp) (a b c d:Addr) (s:CS) (kvs:Kvs):Prop where
 obj:G a=some (chG b c d s.pl)
 mks:G b=some (.lst (mksT s.ms))
 ct:G c=some (.lst (jK8 s.ct))
 ld:G d=some (.dct kvs)
 ok:LdOk s kvs
 ne:b≠c
variable {G':Gp}
theorem ChAt.sub {d:Addr}(h:ChAt G a b c d s kvs)(k:∀x o,G x=some o->x=a\/x=b\/x=c\/x=d->G' x=some o):ChAt G' a b c d s kvs:=
 ⟨k _ _ h.obj (.inl rfl),k _ _ h.mks (.inr (.inl rfl)),k _ _ h.ct (.inr (.inr (.inl rfl))),k _ _ h.ld (.inr (.inr (.inr rfl))),h.ok,h.ne⟩
def beg (r k:Nat):CS:=⟨[r],[k],fun _=>none,0,0⟩
noncomputable def jQe:Sp3:=fun xs G Q=>∃(a:Addr) (r k:Nat),xs=[.ref a,.str (mkS r),.int (k:Nat)]/\G a=some (.ins "Chart" [])/\∀b c d G',ChAt G' a b c d (beg r k) []->G b=none->G c=none->G d=none->(∀x,x≠a->x≠b->x≠c->x≠d->G' x=G x)->Q .non G'
def kJv:List Str:=["self","mark","doors"]
noncomputable def jQk:TS3:=
 (tSeq (jYt "Chart" "marks" (tVar 0) (tLst (jJa (tVar 1) tNil)))
 (tSeq (jYt "Chart" "counts" (tVar 0) (tLst (jJa (tVar 2) tNil)))
 (tSeq (jYt "Chart" "leads" (tVar 0) jXc)
 (jYt "Chart" "place" (tVar 0) (tC (.int 0))))))
theorem jXg:RdOk jQe jQk kJv:=by
 intro xs G Q h_;apply xe3 h_;clear h_;intro a r k h_;apply ae2 h_;clear h_;intro h0 kk
 show jQk _ [some (.ref a),some (.str (mkS r)),some (.int (k:Nat))] G
 wp_walk using 1,jQk,jYt,jXc
 have hs:=sz
 refine⟨by omega,fun b hb=> ?_⟩
 have hab:=jJo h0 hb
 refine⟨_,setN (fs:=[]) (fs':=[("marks",.ref b)]) (by rw[jJi hab];exact h0) (by decide) rfl,by omega,fun c hc=> ?_⟩
 obtain⟨hca,hc1⟩:=jJt hc
 obtain⟨hcb,hc0⟩:=jJt hc1
 refine⟨_,setN (fs:=[("marks",.ref b)]) (fs':=[("marks",.ref b),("counts",.ref c)]) (by rw[jJi hca.symm,jJg]) (show 1<1000 by decide) (by simp only[jU0,q1,if_false]),.inl fun d hd=> ?_⟩
 obtain⟨hda,hd1⟩:=jJt hd
 obtain⟨hdc,hd2⟩:=jJt hd1
 obtain⟨_,hd3⟩:=jJt hd2
 obtain⟨hdb,hd0⟩:=jJt hd3
 refine⟨_,setN (fs:=[("marks",.ref b),("counts",.ref c)]) (fs':=[("marks",.ref b),("counts",.ref c),("leads",.ref d)]) (by rw[jJi hda.symm,jJg]) (show 2<1000 by decide) (by simp only[jU0,q2,q4,if_false]),_,setN jJg (fs':=chF b c d 0) (show 3<1000 by decide) (by simp only[jU0,q3,q5,q6,if_false,chF];rfl),?_⟩
 have hba:=hab.symm
 refine kk b c d _ ⟨jJg,?_,?_,?_,⟨fun x hx=>absurd hx List.not_mem_nil,fun i r' d' hi=>rfl,Nat.zero_le _⟩,hcb.symm⟩ hb hc0 hd0 fun x h1 h2 h3 h4=> ?_
 ·rw[jJi hba,jJi hba,jJi hdb.symm,jJi hba,jJi hcb.symm,jJi hba,jJg];rfl
 ·rw[jJi hca,jJi hca,jJi hdc.symm,jJi hca,jJg];rfl
 ·rw[jJi hda,jJi hda,jJg]
 ·rw[jJi h1,jJi h1,jJi h4,jJi h1,jJi h3,jJi h1,jJi h2]
theorem kKj:∀ms:List Nat,(mksT ms).all jUr=true
 | []=>rfl
 | _::l=>kKj l
theorem kXk (h:r<24)(h':r'<24):eqT (.str (mkS r)) (.str (mkS r'))=decide (r=r'):=by
 rw[show eqT (.str (mkS r)) (.str (mkS r'))=(mkS r == mkS r') from rfl]
 by_cases e:r=r'
 ·subst e;simp
 ·rw[decide_eq_false e]
  exact beq_eq_false_iff_ne.mpr fun z=>e (jZ6 h h' z)
theorem kV5 (h:G b=some (.lst (mksT ms)))(hm:∀x,x∈ms->x<24)(hr:r<24):inR G (.str (mkS r)) (.ref b)=some (decide (r∈ms)):=by
 have e:inR G (.str (mkS r)) (.ref b)=some (inT (.str (mkS r)) (mksT ms)):=by
  simp only[inR,seqT,h,asL,kKj,jUr,and_self,if_true]
 rw[e]
 congr 1
 clear e h
 induction ms with
 | nil=>rfl
 | cons x ms ih=>
  have h1:=ih fun y hy=>hm y (List.mem_cons_of_mem _ hy)
  have h3:=kXk (hm x (List.mem_cons_self ..)) hr
  unfold inT mksT at h1 ⊢
  rw[List.map_cons,List.any_cons,h1]
  rw[h3]
  by_cases q:x=r
  ·simp[q]
  ·have q':¬ r=x:=fun z=>q z.symm
   simp[q,q']
variable {Q:VK3}
theorem kV7 (h:G b=some (.lst (mksT ms)))(nd:ms.Nodup)(lt:∀x,x∈ms->x<24)(hm:r∈ms)(kk:Q (.int (ms.idxOf r:Nat)) G):kK9 (.ref b) [.str (mkS r)] G Q:=by
 have hr:=lt r hm
 refine⟨b,_,_,.str (mkS r),ms.idxOf r,rfl,rfl,h,rfl,kKj _,by rw[mksT,List.getElem?_map,jU6 hm];rfl,by rw[kXk hr hr];simp,fun m t hl ht=> ?_,kk⟩
 rw[mksT,List.getElem?_map] at ht
 obtain⟨x,hx,rfl⟩:=Option.map_eq_some_iff.mp ht
 rw[kXk (lt x (List.mem_of_getElem? hx)) hr]
 refine decide_eq_false fun z=> ?_
 subst z
 have:=kJc nd hx
 omega
def jKi:Sp3:=fun xs G Q=>∃(a b c d:Addr) (s:CS) (kvs:Kvs) (r:Nat),xs=[.ref a,.str (mkS r)]/\ChAt G a b c d s kvs/\s.Ok/\r<24/\Q (.int (s.ms.idxOf r:Nat)) G
def jVo:List Str:=["self","mark"]
noncomputable def jKj:TS3:=
 (tRet (tIf (jJq (tOp kY0 (tVar 1) (tFld "Chart" "marks" (tVar 0)))) (tBM "list" kK9 (tFld "Chart" "marks" (tVar 0)) (jJa (tVar 1) tNil)) (tCB rLen (jJa (tFld "Chart" "marks" (tVar 0)) tNil))))
theorem jUc:RdOk jKi jKj jVo:=by
 intro xs G Q h_;apply xe7 h_;clear h_;intro a b c d s kvs r h_;apply ae4 h_;clear h_;intro h o hr kk
 show jKj _ [some (.ref a),some (.str (mkS r))] G
 wp_walk using 1,jKj,tFld,fMk h.obj,kY0,kV5 h.mks o.lt hr,jK5 h.mks
 split
 ·rename_i hm
  exact kV7 h.mks o.nd o.lt hm kk
 ·rename_i hm
  refine⟨_,jJ4 h.mks,?_⟩
  rw[mksT,List.length_map,<-kJb hm]
  exact kk
def jQf:Sp3:=fun xs G Q=>∃(a b c d:Addr) (s:CS) (kvs:Kvs),xs=[.ref a]/\ChAt G a b c d s kvs/\s.Ok/\Q (.str (mkS s.at_)) G
def kJw:List Str:=["self"]
noncomputable def jQl:TS3:=
 (tRet (tOp rIxF (tFld "Chart" "marks" (tVar 0)) (tFld "Chart" "place" (tVar 0))))
theorem mks_at (h:ms[i]? =some r):L2.atI (mksT ms) (i:Int)=some (.str (mkS r)):=by
 rw[atN,mksT,List.getElem?_map,h];rfl
theorem jXh:RdOk jQf jQl kJw:=by
 intro xs G Q h_;apply xe6 h_;clear h_;intro a b c d s kvs h_;apply ae3 h_;clear h_;intro h o kk
 show jQl _ [some (.ref a)] G
 wp_walk using 1,jQl,tFld,fMk h.obj,fPl h.obj,jUo h.mks,mks_at o.at_
 exact kk
variable {xs:List T}
theorem lsT (h:G p=some (.lst xs)):jVk G (.ref p)=some xs:=by simp only[jVk,h];rfl
def rmT (s:CS):T:= .tup (zipT (mksT s.ms) (jK8 s.ct))
def jK6:Sp3:=fun xs G Q=>∃(a b c d:Addr) (s:CS) (kvs:Kvs),xs=[.ref a]/\ChAt G a b c d s kvs/\s.Ok/\Q (rmT s) G
def jZo:List Str:=["self"]
noncomputable def jK7:TS3:=
 (tRet (qJq (jJa (tFld "Chart" "marks" (tVar 0)) (jJa (tFld "Chart" "counts" (tVar 0)) tNil))))
theorem jVs:RdOk jK6 jK7 jZo:=by
 intro xs G Q h_;apply xe6 h_;clear h_;intro a b c d s kvs h_;apply ae3 h_;clear h_;intro h o kk
 show jK7 _ [some (.ref a)] G
 wp_walk using 1,jK7,qJq,tFld,fMk h.obj,fCt h.obj
 refine⟨_,lsT h.mks,_,lsT h.ct,?_,kk⟩
 rw[mksT,jK8,List.length_map,List.length_map,o.len]
variable {ct:List Nat}
theorem kV4 {k:Nat}(h:ct[i]? =some k):L2.atI (jK8 ct) (i:Int)=some (.int (k:Nat)):=by
 rw[atN,jK8,List.getElem?_map,h];rfl
theorem dAt_E {d:Addr}{p:Nat×Nat}(h:G d=some (.dct kvs)):dAt G (.ref d) (encE p)=some (valT kvs (keyE p)):=by
 simp only[dAt,h,encE];rfl
noncomputable def dueX (s:CS)(d c r k:Nat):Option Str:=
 if (s.ct[s.ms.idxOf r]?).getD k≠k then some "Clash:doors" else if (s.E (s.at_,d)).getD (r,c)≠(r,c) then some "Clash:end" else if (s.E (r,c)).getD (s.at_,d)≠(s.at_,d) then some "Clash:taken" else none
theorem kV8 (hx:x∈ms)(e:ms.idxOf x=ms.idxOf r):x=r:=by
 have h1:=jU6 hx
 by_cases hr:r∈ms
 ·have h2:=jU6 hr
  rw[<-e,h1] at h2
  exact Option.some.inj h2
 ·have:=kZo hx
  rw[e,kJb hr] at this;omega
noncomputable def jJy:SpX:=fun xs G Q R=>∃(a b c d:Addr) (s:CS) (kvs:Kvs) (dr cm r k:Nat),xs=[.ref a,encE (s.pl,dr),encE (s.ms.idxOf r,cm),.int (k:Nat)]/\ChAt G a b c d s kvs/\s.Ok/\(dueX s dr cm r k=none->Q .non G)/\(∀cn,dueX s dr cm r k=some cn->R cn G)
theorem jQq:kYc jJy:=by
 rintro xs G Q Q' R R' hq hr ⟨a,b,c,d,s,kvs,dr,cm,r,k,e,h1,h2,h3,h4⟩
 exact⟨a,b,c,d,s,kvs,dr,cm,r,k,e,h1,h2,fun z=>hq _ _ (h3 z),fun cn z=>hr _ _ (h4 cn z)⟩
def jUd:List Str:=["self","start","end","doors"]
noncomputable def jJ6 (R:XK3):TS3:=
 (tSeq (tIfS (tAnd (jJq (tOp rLt (tOp rIxF (tVar 2) (tC (.int 0))) (tCB rLen (jJa (tFld "Chart" "counts" (tVar 0)) tNil)))) (jJq (tOp rNeA (tOp rIxF (tFld "Chart" "counts" (tVar 0)) (tOp rIxF (tVar 2) (tC (.int 0)))) (tVar 3)))) (jQv R "Clash:doors") jJ5)
 (tSeq (tIfS (jJq (tOp rNeA (tBM "dict" kKa (tFld "Chart" "leads" (tVar 0)) (jJa (tVar 1) (jJa (tVar 2) tNil))) (tVar 2))) (jQv R "Clash:end") jJ5)
 (tIfS (jJq (tOp rNeA (tBM "dict" kKa (tFld "Chart" "leads" (tVar 0)) (jJa (tVar 2) (jJa (tVar 1) tNil))) (tVar 1))) (jQv R "Clash:taken") jJ5)))
theorem jQi:∀xs G Q R,jJy xs G Q R->jJ6 R {nx:=fun _ G'=>Q .non G',rt:=Q} (jK3 jUd xs) G:=by
 intro xs G Q R h_;apply xe10 h_;clear h_;intro a b c d s kvs dr cm r k h_;apply ae4 h_;clear h_;intro h o kk kR
 show jJ6 _ _ [some (.ref a),some (encE (s.pl,dr)),some (encE (s.ms.idxOf r,cm)),some (.int (k:Nat))] G
 have e0:ixR G (encE (s.ms.idxOf r,cm)) (.int 0)=some (.int (s.ms.idxOf r:Nat)):=rfl
 have hp:s.ms.idxOf s.at_=s.pl:=kJc o.nd o.at_
 have g1:eqG G ((valT kvs (keyE (s.pl,dr))).getD (encE (s.ms.idxOf r,cm))) (encE (s.ms.idxOf r,cm))=some (decide ((s.E (s.at_,dr)).getD (r,cm)=(r,cm))):=by
  rw[h.ok.val _ _ _ o.at_]
  cases e:s.E (s.at_,dr) with
  | none=>simp only[Option.map_none,Option.getD_none];rw[jZg];simp
  | some q=>
   simp only[Option.map_some,Option.getD_some];rw[jZg];congr 1;rw[decide_eq_decide]
   exact⟨fun z=>Prod.ext (kV8 (o.e1 _ _ e) (Prod.mk.inj z).1) (Prod.mk.inj z).2,fun z=>by rw[z]⟩
 have g2:eqG G ((valT kvs (keyE (s.ms.idxOf r,cm))).getD (encE (s.pl,dr))) (encE (s.pl,dr))=some (decide ((s.E (r,cm)).getD (s.at_,dr)=(s.at_,dr))):=by
  have hv:valT kvs (keyE (s.ms.idxOf r,cm))=(s.E (r,cm)).map fun q=>encE (s.ms.idxOf q.1,q.2):=by
   by_cases hm:r∈s.ms
   ·exact h.ok.val _ _ _ (jU6 hm)
   ·rw[h.ok.off (by rw[kJb hm];exact Nat.le_refl _)]
    cases e:s.E (r,cm) with
    | none=>rfl
    | some q=>exact absurd (o.e0 _ _ e) hm
  rw[hv]
  cases e:s.E (r,cm) with
  | none=>simp only[Option.map_none,Option.getD_none];rw[jZg];simp
  | some q=>
   simp only[Option.map_some,Option.getD_some];rw[jZg];congr 1;rw[decide_eq_decide]
   exact⟨fun z=>Prod.ext (kV8 (o.e1 _ _ e) ((Prod.mk.inj z).1.trans hp.symm)) (Prod.mk.inj z).2,fun z=>by rw[z,hp]⟩
 have td:tyT G "dict" (.ref d):=by simp[tyT,h.ld]
 have last:(s.ct[s.ms.idxOf r]?).getD k=k->∃x,encE (s.pl,dr)=T.tup x/\∃x_1,dAt G (T.ref d) (T.tup x)=some x_1/\∃b,eqG G (x_1.getD (encE (s.ms.idxOf r,cm))) (encE (s.ms.idxOf r,cm))=some b/\if b=false then R "Clash:end" G else tyT G "dict" (T.ref d)/\∃x,encE (s.ms.idxOf r,cm)=T.tup x/\∃x_2,dAt G (T.ref d) (T.tup x)=some x_2/\∃b,eqG G (x_2.getD (encE (s.pl,dr))) (encE (s.pl,dr))=some b/\if b=false then R "Clash:taken" G else Q T.non G:=by
  intro hd
  refine⟨_,rfl,_,dAt_E (p:=(s.pl,dr)) h.ld,_,g1,?_⟩
  by_cases z1:(s.E (s.at_,dr)).getD (r,cm)=(r,cm)
  ·rw[decide_eq_true z1,if_neg (by simp)]
   refine⟨td,_,rfl,_,dAt_E (p:=(s.ms.idxOf r,cm)) h.ld,_,g2,?_⟩
   by_cases z2:(s.E (r,cm)).getD (s.at_,dr)=(s.at_,dr)
   ·rw[decide_eq_true z2,if_neg (by simp)]
    exact kk (by unfold dueX;rw[if_neg (not_not_intro hd),if_neg (not_not_intro z1),if_neg (not_not_intro z2)])
   ·rw[decide_eq_false z2,if_pos rfl]
    exact kR _ (by unfold dueX;rw[if_neg (not_not_intro hd),if_neg (not_not_intro z1),if_pos z2])
  ·rw[decide_eq_false z1,if_pos rfl]
   exact kR _ (by unfold dueX;rw[if_neg (not_not_intro hd),if_pos z1])
 wp_walk using 1,jJ6,tFld,jQv,fCt h.obj,fLd h.obj,kKa,rNeA,e0,jJ4 h.ct,jUo h.ct
 split
 ·rename_i hl
  have hl':s.ms.idxOf r<s.ct.length:=by rw[jK8,List.length_map] at hl;exact_mod_cast hl
  have hg:=List.getElem?_eq_getElem hl'
  have hgd:(s.ct[s.ms.idxOf r]?).getD k=s.ct[s.ms.idxOf r]:=by rw[hg];rfl
  refine⟨_,kV4 hg,_,jXz,?_⟩
  by_cases z:s.ct[s.ms.idxOf r]=k
  ·rw[decide_eq_true z,if_neg (by simp)]
   exact⟨td,last (hgd.trans z)⟩
  ·rw[decide_eq_false z,if_pos rfl]
   exact kR _ (by unfold dueX;rw[if_pos (by rw[hgd];exact z)])
 ·rename_i hl
  have hl':¬ s.ms.idxOf r<s.ct.length:=by rw[jK8,List.length_map] at hl;exact_mod_cast hl
  exact⟨td,last (by rw[List.getElem?_eq_none (Nat.not_lt.mp hl')];rfl)⟩
noncomputable def jYv:Sp3:=fun xs G Q=>∃(p:Addr) (kvs:Kvs) (a b:Nat×Nat),xs=[.ref p,encE a,encE b]/\G p=some (.dct kvs)/\(∀x,x∈kvs->kJt x.1)/\kvs.length<=1000/\∀q G',G q=none->G' q=some (.dct (kv1 kvs a b))->Sub G G'->Q (.ref q) G'
def N_tied:List Str:=["leads","start","end","further"]
noncomputable def kJ7:TS3:=
 (tSeq (tAsg (tCB kVg (jJa (tVar 0) tNil)) (jJl 3))
 (tSeq (tAsg (tVar 2) (gSub (tVar 3) (tVar 1) jVt))
 (tSeq (tAsg (tVar 1) (gSub (tVar 3) (tVar 2) jVt))
 (tRet (tVar 3)))))
theorem kVe:RdOk jYv kJ7 N_tied:=by
 intro xs G Q h_;apply xe4 h_;clear h_;intro p kvs a b h_;apply ae4 h_;clear h_;intro hp hk hl kk
 show kJ7 _ [some (.ref p),some (encE a),some (encE b),none] G
 have hs:=sz
 wp_walk using 1,kJ7,kVg
 refine⟨kvs,hp,hk,fun q hq=> ?_⟩
 have h1:=jQ6 kvs (keyE a) (encE b)
 wp_walk using 1,tSeq
 refine⟨_,jV1 jJg (ks:=keyE a) rfl (by omega),?_⟩
 wp_walk using 1,tSeq
 refine⟨_,jV1 jJg (ks:=keyE b) rfl (by omega),?_⟩
 wp_walk using 1,tSeq
 exact kk q _ hq jJg (.new hq)
def Kp (S:List Addr)(G G':Gp):Prop:=∀x o,x∉S->G x=some o->G' x=some o
theorem Kp.refl (S:List Addr)(G:Gp):Kp S G G:=fun _ _ _ h=>h
variable {S:List Addr}
theorem Kp.trans (h:Kp S G G1)(h':Kp S G1 G2):Kp S G G2:=fun x o hx e=>h' x o hx (h x o hx e)
theorem Kp.sub (h:Sub G G'):Kp S G G':=fun x o _ e=>h x o e
theorem Kp.gup {o:GO}(h:a∈S):Kp S G (gup G a o):=fun x u hx e=>by rw[jJi (by rintro rfl;exact hx h)];exact e
theorem ChAt.ab {d:Addr}(h:ChAt G a b c d s kvs):a≠b:=by rintro rfl;have:=h.obj.symm.trans h.mks;cases this
theorem ChAt.ac {d:Addr}(h:ChAt G a b c d s kvs):a≠c:=by rintro rfl;have:=h.obj.symm.trans h.ct;cases this
theorem ChAt.bd {d:Addr}(h:ChAt G a b c d s kvs):b≠d:=by rintro rfl;have:=h.mks.symm.trans h.ld;cases this
theorem ChAt.cd {d:Addr}(h:ChAt G a b c d s kvs):c≠d:=by rintro rfl;have:=h.ct.symm.trans h.ld;cases this
noncomputable def jKg:SpX:=fun xs G Q R=>∃(a b c d:Addr) (s:CS) (kvs:Kvs) (di:Int) (cm r k k0:Nat),xs=[.ref a,.int di,.int (cm:Nat),.str (mkS r),.int (k:Nat)]/\ChAt G a b c d s kvs/\s.Ok/\s.n<=400/\r<24/\k<12/\s.ct[s.pl]? =some k0/\
 ((¬ (0<=di/\di<k0)\/k<=cm)->R "NoDoor" G)/\∀dr:Nat,di=dr->dr<k0->cm<k->(∀cn,dueX s dr cm r k=some cn->R cn G)/\(dueX s dr cm r k=none->∀d' kvs' G',G d'=none->ChAt G' a b c d' (goC s dr cm r k) kvs'->Kp [a,b,c] G G'->Q .non G')
theorem jXr:kYc jKg:=by
 rintro xs G Q Q' R R' hq hr ⟨a,b,c,d,s,kvs,di,cm,r,k,k0,e,h1,h2,h3,h4,h5,h6,h7,h8⟩
 exact⟨a,b,c,d,s,kvs,di,cm,r,k,k0,e,h1,h2,h3,h4,h5,h6,fun z=>hr _ _ (h7 z),fun dr z1 z2 z3=>⟨fun cn z=>hr _ _ ((h8 dr z1 z2 z3).1 cn z),fun z d' kvs' G' y1 y2 y3=>hq _ _ ((h8 dr z1 z2 z3).2 z d' kvs' G' y1 y2 y3)⟩⟩
def kJu:List Str:=["self","door","came","mark","doors","start","end"]
noncomputable def jQj (R:XK3):TS3:=
 (tSeq (tIfS (tOr (tNot (jJq (jYj rLeF rLt (tC (.int 0)) (tVar 1) (tOp rIxF (tFld "Chart" "counts" (tVar 0)) (tFld "Chart" "place" (tVar 0)))))) (tNot (jJq (jYj rLeF rLt (tC (.int 0)) (tVar 2) (tVar 4))))) (jQv R "NoDoor") jJ5)
 (tSeq (tAsg (tTup (jJa (tFld "Chart" "place" (tVar 0)) (jJa (tVar 1) tNil))) (jJl 5))
 (tSeq (tAsg (tTup (jJa (jVq "Chart" "number_of" jKi (tVar 0) (jJa (tVar 3) tNil)) (jJa (tVar 2) tNil))) (jJl 6))
 (tSeq (jXb (kU2 "Chart" "refuse_clash" jJy R (tVar 0) (jJa (tVar 5) (jJa (tVar 6) (jJa (tVar 4) tNil)))))
 (tSeq (tIfS (jJq (tOp jUy (tVar 3) (tFld "Chart" "marks" (tVar 0)))) (tSeq (jXb (tBM "list" jQn (tFld "Chart" "marks" (tVar 0)) (jJa (tVar 3) tNil)))
 (jXb (tBM "list" jQn (tFld "Chart" "counts" (tVar 0)) (jJa (tVar 4) tNil)))) jJ5)
 (tSeq (jYt "Chart" "leads" (tVar 0) (jJr jYv (jJa (tFld "Chart" "leads" (tVar 0)) (jJa (tVar 5) (jJa (tVar 6) tNil)))))
 (jYt "Chart" "place" (tVar 0) (tOp rIxF (tVar 6) (tC (.int 0))))))))))
theorem jXf:∀xs G Q R,jKg xs G Q R->jQj R {nx:=fun _ G'=>Q .non G',rt:=Q} (jK3 kJu xs) G:=by
 intro xs G Q R h_;apply xe11 h_;clear h_;intro a b c d s kvs di cm r k k0 h_;apply ae8 h_;clear h_;intro h o hn hr hk hk0 kD kW
 show jQj _ _ [some (.ref a),some (.int di),some (.int (cm:Nat)),some (.str (mkS r)),some (.int (k:Nat)),none,none] G
 have hs:=sz
 have hlm:s.ms.length<=24:=jKw o.nd o.lt
 have hlm:s.ms.length<=24:=jKw o.nd o.lt
 wp_walk using 1,jQj,tFld,jYj,rLeF,jQv,jYt,jVq,kU2,fCt h.obj,fPl h.obj,jUo h.ct,kV4 hk0
 by_cases z0:0<=di
 ·rw[if_pos z0]
  by_cases z1:di<(k0:Int)
  ·rw[decide_eq_true z1,if_neg (by simp),if_pos (by omega)]
   by_cases z2:cm<k
   ·have z2':((cm:Nat):Int)<((k:Nat):Int):=by exact_mod_cast z2
    rw[decide_eq_true z2',if_neg (by simp)]
    obtain⟨dr,rfl⟩:∃dr:Nat,di=dr:=⟨di.toNat,by omega⟩
    have hdr:dr<k0:=by exact_mod_cast z1
    obtain⟨kR,kk⟩:=kW dr rfl hdr z2
    refine⟨by omega,jZ4 h.obj,a,b,c,d,s,kvs,r,rfl,h,o,hr,by omega,jZ4 h.obj,a,b,c,d,s,kvs,dr,cm,r,k,rfl,h,o,fun hd=> ?_,kR⟩
    have kk:=kk hd
    refine⟨_,fMk h.obj,_,kV5 h.mks o.lt hr,_,rfl,?_⟩
    have tail:∀G1:Gp,G1 a=some (chG b c d s.pl)->G1 b=some (.lst (mksT (addR s.ms r)))->G1 c=some (.lst (jK8 (addC s.ms s.ct r k)))->G1 d=some (.dct kvs)->Kp [a,b,c] G G1->∃t,fldR "Chart" "leads" G1 (.ref a)=some t/\
      jYv [t,T.tup [T.int (s.pl:Nat),T.int (dr:Nat)],T.tup [T.int (s.ms.idxOf r:Nat),T.int (cm:Nat)]] G1 fun y G2=>∃G3,jXe "Chart" "leads" G2 (T.ref a) y=some G3/\∃G4,jXe "Chart" "place" G3 (T.ref a) (.int (s.ms.idxOf r:Nat))=some G4/\Q T.non G4:=by
     intro G1 g1 g2 g3 g4 kp
     have hl:=h.ok.len
     have hlm:s.ms.length<=24:=jKw o.nd o.lt
     refine⟨_,fLd g1,d,kvs,(s.pl,dr),(s.ms.idxOf r,cm),rfl,g4,fun x hx=> ?_,by omega,fun q G2 hq e2 s2=>⟨_,pLd (s2 _ _ g1),_,pPl jJg,?_⟩⟩
     ·obtain⟨i,e,h1,h2,h3⟩:=h.ok.ks x hx
      exact⟨i,e,by omega,h2,h3⟩
     have qa:q≠a:=by rintro rfl;rw[g1] at hq;cases hq
     have qn:G q=none:=by
      cases e:G q with
      | none=>rfl
      | some u=>
       by_cases z:q∈[a,b,c]
       ·simp only[List.mem_cons,List.not_mem_nil,or_false] at z
        rcases z with z | z | z
        ·rw[z,g1] at hq;cases hq
        ·rw[z,g2] at hq;cases hq
        ·rw[z,g3] at hq;cases hq
       ·rw[kp _ _ z e] at hq;cases hq
     refine kk q (kv1 kvs (s.pl,dr) (s.ms.idxOf r,cm)) _ qn ⟨?_,?_,?_,?_,h.ok.go o hr (by have:=o.dg k0 (List.mem_of_getElem? hk0);omega) (by omega),h.ne⟩ ?_
     ·rw[jJg];rfl
     ·rw[jUp,jJi h.ab.symm];exact s2 _ _ g2
     ·rw[jUp,jJi h.ac.symm];exact s2 _ _ g3
     ·rw[jUp,jJi qa];exact e2
     ·rw[jUp];exact (kp.trans (.sub s2)).trans (.gup (by simp))
    by_cases hm:r∈s.ms
    ·rw[if_neg (by simp[hm])]
     exact tail G h.obj (by unfold addR;rw[if_pos hm];exact h.mks) (by unfold addC;rw[if_pos hm];exact h.ct) h.ld (.refl _ _)
    ·rw[if_pos (by simp[hm])]
     have e1:mksT s.ms++[T.str (mkS r)]=mksT (addR s.ms r):=by unfold addR;rw[if_neg hm];simp[mksT]
     have e2:jK8 s.ct++[T.int (k:Nat)]=jK8 (addC s.ms s.ct r k):=by unfold addC;rw[if_neg hm];simp[jK8]
     have ga:gup G b (GO.lst (mksT (addR s.ms r))) a=some (chG b c d s.pl):=by rw[jJi h.ab];exact h.obj
     have gc:gup G b (GO.lst (mksT (addR s.ms r))) c=some (.lst (jK8 s.ct)):=by rw[jJi h.ne.symm];exact h.ct
     refine⟨_,fMk h.obj,of_eq_true (jK5 h.mks),_,rfl,_,h.mks,by rw[mksT,List.length_map];omega,?_⟩
     rw[e1]
     refine⟨_,fCt ga,of_eq_true (jK5 gc),_,rfl,_,gc,by rw[jK8,List.length_map,o.len];omega,?_⟩
     rw[e2]
     refine tail _ ?_ ?_ jJg ?_ ((Kp.gup (by simp)).trans (.gup (by simp)))
     ·rw[jJi h.ac];exact ga
     ·rw[jJi h.ne,jJg]
     ·rw[jJi h.cd.symm,jJi h.bd.symm];exact h.ld
   ·rw[decide_eq_false (by omega),if_pos rfl]
    exact kD (.inr (by omega))
  ·rw[decide_eq_false z1,if_pos rfl]
   exact kD (.inl fun z=>z1 z.2)
 ·rw[if_neg z0]
  exact kD (.inl fun z=>z0 z.1)
def endT (s:CS):Option (Nat×Nat)->T
 | none=> .non
 | some e=>encE (s.ms.idxOf e.1,e.2)
def rmI (s:CS)(i:Nat):Nat:=s.ms.getD i 0
def ctI (s:CS)(i:Nat):Nat:=s.ct.getD i 0
def rowT (s:CS)(i:Nat):List T:=(List.range (ctI s i)).map fun d=>endT s (s.E (rmI s i,d))
def skL (s:CS)(n:Nat):List T:=(List.range n).map fun i=> .tup (rowT s i)
def skT (s:CS):T:= .tup (skL s s.ms.length)
theorem qJ1 (h:i<s.ms.length):s.ms[i]? =some (rmI s i):=by
 unfold rmI
 (rw[List.getD_eq_getElem?_getD,List.getElem?_eq_getElem h];rfl)
theorem kXw (o:s.Ok)(h:i<s.ms.length):s.ct[i]? =some (ctI s i):=by
 unfold ctI
 rw[List.getD_eq_getElem?_getD,List.getElem?_eq_getElem (by rw[o.len];exact h)];rfl
theorem kXv (o:s.Ok)(h:i<s.ms.length):ctI s i<12:=o.dg _ (List.mem_of_getElem? (kXw o h))
theorem LdOk.get (h:LdOk s kvs)(hi:i<s.ms.length):(valT kvs (keyE (i,d))).getD .non=endT s (s.E (rmI s i,d)):=by
 rw[h.val i _ d (qJ1 hi)]
 cases s.E (rmI s i,d)<;>rfl
variable {j:Nat}
theorem kVo {y:T}(h:(numT xs)[j]? =some y):∃x,xs[j]? =some x/\y= .tup [.int j,x]:=by
 unfold numT at h
 obtain⟨e,he,rfl⟩:=jQ2 h
 obtain⟨h1,h2⟩:=List.getElem?_eq_some_iff.mp he
 simp at h1 h2
 subst h2
 exact⟨xs[j],List.getElem?_eq_getElem h1,by rw[List.getD_eq_getElem?_getD,List.getElem?_eq_getElem h1];rfl⟩
theorem jQg {n e:Nat}(h:(List.range n)[i]? =some e):i<n/\i=e:=by
 obtain⟨q1,q2⟩:=List.getElem?_eq_some_iff.mp h;simp at q1 q2;exact⟨q1,q2⟩
noncomputable def jUi:Sp3:=fun xs G Q=>∃(c d:Addr) (s:CS) (kvs:Kvs),xs=[.ref c,.ref d]/\G c=some (.lst (jK8 s.ct))/\G d=some (.dct kvs)/\s.Ok/\LdOk s kvs/\∀G',Sub G G'->Q (skT s) G'
def kUr:List Str:=["counts","leads","rooms","room","doors","door"]
noncomputable def jUj:TS3:=
 (tSeq (tAsg (tLst tNil) (jJl 2))
 (tSeq (tFor (qKu (jJa (tVar 0) tNil)) (gTup 2 (jQ3 (jJl 3) (jQ3 (jJl 4) gNil))) (jXb (tBM "list" jQn (tVar 2) (jJa (tCB jQm (jJa (jYu [false,false,false,false,false,true] (jVm (jJa (tVar 4) tNil)) (jJl 5) kQ2 (tBM "dict" jY4 (tVar 1) (jJa (tTup (jJa (tVar 3) (jJa (tVar 5) tNil))) tNil))) tNil)) tNil))))
 (tRet (tCB jQm (jJa (tVar 2) tNil)))))
theorem jYz:RdOk jUi jUj kUr:=by
 intro xs G Q h_;apply xe4 h_;clear h_;intro c d s kvs h_;apply ae5 h_;clear h_;intro hc hd o ld kk
 show jUj _ [some (.ref c),some (.ref d),none,none,none,none] G
 have hs:=sz
 have hlm:s.ms.length<=24:=jKw o.nd o.lt
 wp_walk using 1,jUj,jVc,qKu
 refine⟨Nat.zero_le _,fun q hq=> ?_⟩
 have hcq:=jJo hc hq
 have hdq:=jJo hd hq
 refine⟨_,lsT (by rw[jJi hcq];exact hc),?_⟩
 let J1:Nat->St3->Gp->Prop:=fun i τ G'=>∃(v3 v4:Option T),τ=[some (.ref c),some (.ref d),some (.ref q),v3,v4,none]/\G' q=some (.lst (skL s i))/\Sub G G'
 refine⟨J1,?_,?_,?_,?_⟩
 ·exact xi2 _ _ rfl ⟨jJg,.new hq⟩
 ·intro i τ G1 _ h_;apply xe2 h_;clear h_;intro v3 v4 h_;apply ae2 h_;clear h_;intro h2 h3
  exact lsT (h3 _ _ hc)
 ·intro i y τ G1 hy h_;apply xe2 h_;clear h_;intro v3 v4 h_;apply ae2 h_;clear h_;intro h2 h3
  obtain⟨z,hz,rfl⟩:=kVo hy
  obtain⟨k,hk,rfl⟩:=jQ2 hz
  have hi:i<s.ms.length:=by have:=(List.getElem?_eq_some_iff.mp hk).1;rw[o.len] at this;exact this
  have ek:k=ctI s i:=by rw[kXw o hi] at hk;exact (Option.some.inj hk).symm
  subst ek
  have hk1:=kXv o hi
  wp_walk using 1,jVm,jK5 h2
  refine⟨by omega,by omega,?_⟩
  rw[show ((ctI s i:Nat):Int).toNat=ctI s i by omega,jQ4]
  refine jV5 (fun d=>endT s (s.E (rmI s i,d))) (by simp;omega) (fun _ _=>trivial) ?_ ?_
  ·intro j x hx G2 K K0 s2 hK
   obtain⟨hj,rfl⟩:=jQg hx
   have hd2:=s2 _ _ (h3 _ _ hd)
   wp_walk using 1,jY4
   refine⟨by simp[tyT,hd2],by omega,valT kvs (keyE (i,j)),?_,?_⟩
   ·simp only[dAt,hd2];rfl
   ·rw[ld.get hi];exact hK G2 (.refl _)
  ·intro D G2 hD hD2 s2
   refine⟨_,jJ4 hD2,?_⟩
   have hq2:=s2 _ _ h2
   wp_walk using 1,hq2
   refine⟨by simp[skL];omega,xi2 _ _ rfl ⟨?_,(h3.trans s2).over hq⟩⟩
   rw[jJg]
   simp[skL,List.range_succ,rowT]
 ·intro τ G1 h_;apply xe2 h_;clear h_;intro v3 v4 h_;apply ae2 h_;clear h_;intro h2 h3
  wp_walk using 1,tSeq
  have e:(numT (jK8 s.ct)).length=s.ms.length:=by simp[numT,jK8,o.len]
  rw[e] at h2
  exact⟨_,jJ4 h2,kk G1 h3⟩
def jKh:Sp3:=fun xs G Q=>∃(a b c d:Addr) (s:CS) (kvs:Kvs),xs=[.ref a]/\ChAt G a b c d s kvs/\s.Ok/\∀G',Sub G G'->Q (skT s) G'
def jYi:List Str:=["self"]
noncomputable def jK0:TS3:=
 (tRet (jJr jUi (jJa (tFld "Chart" "counts" (tVar 0)) (jJa (tFld "Chart" "leads" (tVar 0)) tNil))))
theorem jVf:RdOk jKh jK0 jYi:=by
 intro xs G Q h_;apply xe6 h_;clear h_;intro a b c d s kvs h_;apply ae3 h_;clear h_;intro h o kk
 show jK0 _ [some (.ref a)] G
 wp_walk using 1,jK0,tFld,fCt h.obj,fLd h.obj
 exact⟨c,d,s,kvs,rfl,h.ct,h.ld,o,h.ok,kk⟩
def opR (s:CS)(i:Nat):List T:=(List.range (ctI s i)).filterMap fun d=>if (s.E (rmI s i,d)).isNone=true then some (encE (i,d)) else none
def opL (s:CS)(n:Nat):List T:=(List.range n).flatMap (opR s)
theorem jY5 (s:CS)(n:Nat):opL s (n+1)=opL s n++opR s n:=by simp[opL,List.range_succ]
theorem kKd {s:CS} (o:s.Ok):∀ {n:Nat},n<=s.ms.length->(opL s n).length<=12*n
 | 0,_=>by simp[opL]
 | n+1,h=>by
  rw[jY5,List.length_append]
  have h1:=kKd o (n:=n) (by omega)
  have h2:(opR s n).length<=ctI s n:=by have:=List.length_filterMap_le (fun d=>if (s.E (rmI s n,d)).isNone=true then some (encE (n,d)) else none) (List.range (ctI s n));rw[List.length_range] at this;exact this
  have h3:=kXv o (i:=n) (by omega)
  omega
theorem kVc (h:d<ctI s i):(rowT s i)[d]? =some (endT s (s.E (rmI s i,d))):=by
 unfold rowT
 rw[List.getElem?_map,List.getElem?_range h];rfl
noncomputable def jKb:Sp3:=fun xs G Q=>∃(a b c d:Addr) (s:CS) (kvs:Kvs),xs=[.ref a]/\ChAt G a b c d s kvs/\s.Ok/\∀p G',G p=none->G' p=some (.lst (opL s s.ms.length))->Sub G G'->Q (.ref p) G'
def jVa:List Str:=["self","told","room","ends","door","end"]
noncomputable def jKc:TS3:=
 (tSeq (tAsg (tLst tNil) (jJl 1))
 (tSeq (tFor (iEnT (jJa (jVq "Chart" "sketch" jKh (tVar 0) tNil) tNil)) (gTup 2 (jQ3 (jJl 2) (jQ3 (jJl 3) gNil))) (jXb (tBM "list" kKb (tVar 1) (jJa (jYu [false,false,false,false,true,true] (iEnT (jJa (tVar 3) tNil)) (gTup 2 (jQ3 (jJl 4) (jQ3 (jJl 5) gNil))) (jJq (tOp rIsN (tVar 5) (tC .non))) (tTup (jJa (tVar 2) (jJa (tVar 4) tNil)))) tNil))))
 (tRet (tVar 1))))
theorem jQy:RdOk jKb jKc jVa:=by
 intro xs G Q h_;apply xe6 h_;clear h_;intro a b c d s kvs h_;apply ae3 h_;clear h_;intro h o kk
 show jKc _ [some (.ref a),none,none,none,none,none] G
 have hs:=sz
 have hlm:s.ms.length<=24:=jKw o.nd o.lt
 wp_walk using 1,jKc,jVc,iEnT,jVq
 refine⟨Nat.zero_le _,fun q hq=> ?_⟩
 have h':ChAt (gup G q (.lst [])) a b c d s kvs:=h.sub fun x u e _=>by rw[jJi (jJo e hq)];exact e
 refine⟨jZ4 h'.obj,a,b,c,d,s,kvs,rfl,h',o,fun G0 s0=> ?_⟩
 have hq0:G0 q=some (.lst []):=s0 _ _ jJg
 have sg:Sub G G0:=(Sub.new hq).trans s0
 refine⟨_,rfl,?_⟩
 let J1:Nat->St3->Gp->Prop:=fun i τ G'=>∃(v2 v3:Option T),τ=[some (.ref a),some (.ref q),v2,v3,none,none]/\G' q=some (.lst (opL s i))/\Sub G G'
 refine⟨J1,?_,?_,?_,?_⟩
 ·exact xi2 _ _ rfl ⟨hq0,sg⟩
 ·intros;trivial
 ·intro i y τ G1 hy h_;apply xe2 h_;clear h_;intro v2 v3 h_;apply ae2 h_;clear h_;intro h2 h3
  obtain⟨z,hz,rfl⟩:=kVo hy
  obtain⟨i',hi',rfl⟩:=jQ2 hz
  obtain⟨hi,rfl⟩:=jQg hi'
  have hk1:=kXv o hi
  wp_walk using 1,iEnT,jK5 h2
  rw[show numT (rowT s i)=(List.range (ctI s i)).map (fun j:Nat=>T.tup [.int j,(rowT s i).getD j .non]) by rw[numT,rowT,List.length_map,List.length_range]]
  refine jZk (fun d=>if (s.E (rmI s i,d)).isNone=true then some (encE (i,d)) else none) (by simp;omega) (fun _ _=>trivial) ?_ ?_
  ·intro j x hx G2 K K0 s2 hK hK0
   obtain⟨hj,rfl⟩:=jQg hx
   rw[List.getD_eq_getElem?_getD,kVc hj,Option.getD_some]
   cases e:s.E (rmI s i,j) with
   | none=>wp_walk using 1,endT;exact⟨by omega,hK _ _ (by rw[e];rfl) (.refl _)⟩
   | some q=>wp_walk using 1,endT,encE;exact hK0 (by rw[e];rfl) _ (.refl _)
  ·intro D G2 hD hD2 s2
   have hl:=kKd o (n:=i) (by omega)
   have hr:(opR s i).length<=ctI s i:=by have:=List.length_filterMap_le (fun d=>if (s.E (rmI s i,d)).isNone=true then some (encE (i,d)) else none) (List.range (ctI s i));rw[List.length_range] at this;exact this
   refine⟨q,D,_,_,rfl,rfl,s2 _ _ h2,hD2,by show (opL s i).length+(opR s i).length<=_;omega,xi2 _ _ rfl ⟨?_,(h3.trans s2).over hq⟩⟩
   rw[jJg,jY5];rfl
 ·intro τ G1 h_;apply xe2 h_;clear h_;intro v2 v3 h_;apply ae2 h_;clear h_;intro h2 h3
  wp_walk using 1,tSeq
  have e:(numT (skL s s.ms.length)).length=s.ms.length:=by simp[numT,skL]
  rw[e] at h2
  exact kk q G1 hq h2 h3
variable {y:Str}
theorem kne {x:Str}(h:¬ x=y):¬ (Sum.inr x:L2.Key)=Sum.inr y:=fun z=>h (Sum.inr.inj z)
theorem w12:¬ ("order":Str)="many":=by decide +kernel
theorem w13:¬ ("order":Str)="ends":=by decide +kernel
theorem w14:¬ ("order":Str)="at":=by decide +kernel
theorem w23:¬ ("many":Str)="ends":=by decide +kernel
theorem w24:¬ ("many":Str)="at":=by decide +kernel
theorem w34:¬ ("ends":Str)="at":=by decide +kernel
def mdL (o n e:Addr)(r:Nat):List (L2.Key×T):=[(.inr "order",.ref o),(.inr "many",.ref n),(.inr "ends",.ref e),(.inr "at",.str (mkS r))]
def manL (ms ct:List Nat):List (L2.Key×T):=(ms.zip ct).map fun x=>(Sum.inr (mkS x.1),T.int (x.2:Nat))
structure MdAt (G:Gp) (m o n e:Addr) (s:CS) (evs:Kvs):Prop where
 obj:G m=some (.dck (mdL o n e s.at_))
 ord:G o=some (.lst (mksT s.ms))
 man:G n=some (.dck (manL s.ms s.ct))
 ens:G e=some (.dct evs)
 ok:EnOk s evs
 ne:m≠n
variable {m o n:Addr}{evs:Kvs}
theorem MdAt.sub (h:MdAt G m o n e s evs)(k:∀x u,G x=some u->x=m\/x=o\/x=n\/x=e->G' x=some u):MdAt G' m o n e s evs:=
 ⟨k _ _ h.obj (.inl rfl),k _ _ h.ord (.inr (.inl rfl)),k _ _ h.man (.inr (.inr (.inl rfl))),k _ _ h.ens (.inr (.inr (.inr rfl))),h.ok,h.ne⟩
theorem MdAt.mo (h:MdAt G m o n e s evs):m≠o:=by rintro rfl;have:=h.obj.symm.trans h.ord;cases this
theorem MdAt.me (h:MdAt G m o n e s evs):m≠e:=by rintro rfl;have:=h.obj.symm.trans h.ens;cases this
theorem MdAt.no (h:MdAt G m o n e s evs):n≠o:=by rintro rfl;have:=h.man.symm.trans h.ord;cases this
theorem MdAt.ne' (h:MdAt G m o n e s evs):n≠e:=by rintro rfl;have:=h.man.symm.trans h.ens;cases this
theorem MdAt.oe (h:MdAt G m o n e s evs):o≠e:=by rintro rfl;have:=h.ord.symm.trans h.ens;cases this
theorem ixM {x:Str}{t:T}(h:G m=some (.dck (mdL o n e r)))(hv:valT (mdL o n e r) (Sum.inr x)=some t):ixR G (.ref m) (.str x)=some t:=by
 simp only[ixR,seqT,h,asL,dAt,jQu,hv]
theorem mOrd (h:G m=some (.dck (mdL o n e r))):ixR G (.ref m) (.str (PySem.Str.ofString "order"))=some (.ref o):=ixM h (by simp only[mdL,valT,List.find?,decide_true,Option.map_some])
theorem mMan (h:G m=some (.dck (mdL o n e r))):ixR G (.ref m) (.str (PySem.Str.ofString "many"))=some (.ref n):=ixM h (by simp only[mdL,valT,List.find?,decide_true,decide_eq_false (kne w12),Option.map_some])
theorem mEnd (h:G m=some (.dck (mdL o n e r))):ixR G (.ref m) (.str (PySem.Str.ofString "ends"))=some (.ref e):=ixM h (by simp only[mdL,valT,List.find?,decide_true,decide_eq_false (kne w13),decide_eq_false (kne w23),Option.map_some])
theorem mAt (h:G m=some (.dck (mdL o n e r))):ixR G (.ref m) (.str (PySem.Str.ofString "at"))=some (.str (mkS r)):=ixM h (by simp only[mdL,valT,List.find?,decide_true,decide_eq_false (kne w14),decide_eq_false (kne w24),decide_eq_false (kne w34),Option.map_some])
theorem sAt (h:G m=some (.dck (mdL o n e r))):setR G (.ref m) (.str (PySem.Str.ofString "at")) (.str (mkS r'))=some (gup G m (.dck (mdL o n e r'))):=by
 simp only[setR,h,jQu]
 rw[if_pos (by rw[PySem.sizeLine_eq];show 4<16777216;decide)]
 have:putT (mdL o n e r) (Sum.inr (PySem.Str.ofString "at")) (.str (mkS r'))=mdL o n e r':=by
  show putT (mdL o n e r) (Sum.inr ("at":Str)) (.str (mkS r'))=_
  simp[putT,mdL,w14,w24,w34]
 rw[this]
theorem kKm:∀ {ms ct:List Nat} {i r k:Nat},ms.Nodup->(∀x,x∈ms->x<24)->ms[i]? =some r->ct[i]? =some k->valT (manL ms ct) (Sum.inr (mkS r))=some (.int (k:Nat))
 | [],_,_,_,_,_,_,h,_=>by simp at h
 | _::_,[],_,_,_,_,_,_,h=>by simp at h
 | x::ms,y::ct,0,r,k,nd,lt,h1,h2=>by
  simp at h1 h2;subst h1;subst h2
  simp[manL,valT]
 | x::ms,y::ct,i+1,r,k,nd,lt,h1,h2=>by
  have hr:r∈ms:=List.mem_of_getElem? (show ms[i]? =some r by simpa using h1)
  have ne:¬ mkS x=mkS r:=fun z=>by
   have:=jZ6 (lt x (List.mem_cons_self ..)) (lt r (List.mem_cons_of_mem _ hr)) z
   subst this
   exact (List.nodup_cons.mp nd).1 hr
  have ih:=kKm (ms:=ms) (ct:=ct) (i:=i) (r:=r) (k:=k) (List.nodup_cons.mp nd).2 (fun z hz=>lt z (List.mem_cons_of_mem _ hz)) (by simpa using h1) (by simpa using h2)
  unfold valT manL at ih ⊢
  rw[List.zip_cons_cons,List.map_cons,List.find?_cons,decide_eq_false (kne ne)]
  exact ih
theorem qKg {k:Nat}(hl:ct.length=ms.length)(lt:∀x,x∈ms->x<24)(hr:r<24)(hm:r∉ms):putT (manL ms ct) (Sum.inr (mkS r)) (.int (k:Nat))=manL (ms++[r]) (ct++[k]):=by
 unfold putT
 rw[if_neg]
 ·unfold manL
  rw[List.zip_append hl.symm];simp
 ·intro z
  obtain⟨x,hx,e⟩:=List.any_eq_true.mp z
  (obtain⟨y,hy,rfl⟩:=List.mem_map.mp hx)
  have e:=of_decide_eq_true e
  have hy1:y.1∈ms:=(List.of_mem_zip hy).1
  exact hm (jZ6 (lt _ hy1) hr (Sum.inr.inj e)▸hy1)
theorem kQj {k:Nat}(h:G n=some (.dck (manL ms ct)))(nd:ms.Nodup)(lt:∀x,x∈ms->x<24)(h1:ms[i]? =some r)(h2:ct[i]? =some k):ixR G (.ref n) (.str (mkS r))=some (.int (k:Nat)):=by
 simp only[ixR,seqT,h,asL,dAt,jQu,kKm nd lt h1 h2]
noncomputable def jVd:Sp3:=fun xs G Q=>∃r k:Nat,xs=[.str (mkS r),.int (k:Nat)]/\∀m o n e G',MdAt G' m o n e (beg r k) []->G m=none->G o=none->G n=none->G e=none->Sub G G'->Q (.ref m) G'
def kYb:List Str:=["_law_mark_here","_law_doors"]
noncomputable def jVg:TS3:=
 (tRet (kU3 (tC (.str (PySem.Str.ofString "order"))) (tLst (jJa (tVar 0) tNil)) (tC (.str (PySem.Str.ofString "many"))) (kU4 (tVar 0) (tVar 1)) (tC (.str (PySem.Str.ofString "ends"))) jXc (tC (.str (PySem.Str.ofString "at"))) (tVar 0)))
theorem jZv:RdOk jVd jVg kYb:=by
 intro xs G Q h_;apply xe2 h_;clear h_;intro r k kk
 show jVg _ [some (.str (mkS r)),some (.int (k:Nat))] G
 have hs:=sz
 wp_walk using 1,jVg,kU3,kU4,jXc
 intro m hm
 refine⟨by omega,fun o ho n hn=>⟨_,rfl,.inl fun e he=> ?_⟩⟩
 obtain⟨hom,ho0⟩:=jJt ho
 obtain⟨hno,hn1⟩:=jJt hn
 obtain⟨hnm,hn0⟩:=jJt hn1
 obtain⟨hen,he1⟩:=jJt he
 obtain⟨heo,he2⟩:=jJt he1
 obtain⟨hem,he0⟩:=jJt he2
 refine⟨_,rfl,_,rfl,_,rfl,_,rfl,by rw[jJi hem.symm,jJi hnm.symm,jJi hom.symm,jJg],?_⟩
 have ep:putT (putT (putT (putT [] (Sum.inr ("order":Str):L2.Key) (T.ref o)) (Sum.inr ("many":Str)) (T.ref n)) (Sum.inr ("ends":Str)) (T.ref e)) (Sum.inr ("at":Str)) (T.str (mkS r))=mdL o n e r:=by
  simp[putT,mdL,w12,w13,w14,w23,w24,w34]
 refine kk m o n e _ ⟨?_,?_,?_,?_,⟨(fun x z=>nomatch z),fun r' d' _=>rfl,Nat.zero_le _⟩,hnm.symm⟩ hm ho0 hn0 he0 ?_
 ·rw[jJg];exact congrArg (fun z=>some (GO.dck z)) ep
 ·rw[jJi hom,jJi heo.symm,jJi hno.symm,jJg];rfl
 ·rw[jJi hnm,jJi hen.symm,jJg];rfl
 ·rw[jJi hem,jJg]
 ·exact ((((Sub.new hm).over ho0).over hn0).over he0).over hm
noncomputable def jQw:Sp3:=fun xs G Q=>∃(m o n e:Addr) (s:CS) (evs:Kvs) (dr cm r k:Nat),xs=[.ref m,.int (dr:Nat),.int (cm:Nat),.str (mkS r),.int (k:Nat)]/\MdAt G m o n e s evs/\s.Ok/\s.n<=400/\r<24/\∀evs' G',MdAt G' m o n e (goC s dr cm r k) evs'->Kp [m,o,n,e] G G'->Q .non G'
def kKz:List Str:=["_law_model","_law_door","_law_came","_law_mark_here","_law_doors"]
noncomputable def jQz:TS3:=
 (tSeq (tIfS (jJq (tOp jUy (tVar 3) (tOp rIxF (tVar 0) (tC (.str (PySem.Str.ofString "order")))))) (tSeq (jXb (tBM "list" jQn (tOp rIxF (tVar 0) (tC (.str (PySem.Str.ofString "order")))) (jJa (tVar 3) tNil)))
 (tAsg (tVar 4) (gSub (tOp rIxF (tVar 0) (tC (.str (PySem.Str.ofString "many")))) (tVar 3) jVt))) jJ5)
 (tSeq (tAsg (tTup (jJa (tVar 3) (jJa (tVar 2) tNil))) (gSub (tOp rIxF (tVar 0) (tC (.str (PySem.Str.ofString "ends")))) (tTup (jJa (tOp rIxF (tVar 0) (tC (.str (PySem.Str.ofString "at")))) (jJa (tVar 1) tNil))) jVt))
 (tSeq (tAsg (tTup (jJa (tOp rIxF (tVar 0) (tC (.str (PySem.Str.ofString "at")))) (jJa (tVar 1) tNil))) (gSub (tOp rIxF (tVar 0) (tC (.str (PySem.Str.ofString "ends")))) (tTup (jJa (tVar 3) (jJa (tVar 2) tNil))) jVt))
 (tAsg (tVar 3) (gSub (tVar 0) (tC (.str (PySem.Str.ofString "at"))) jVt)))))
theorem jYc:RdOk jQw jQz kKz:=by
 intro xs G Q h_;apply xe10 h_;clear h_;intro m o n e s evs dr cm r k h_;apply ae5 h_;clear h_;intro h ok hn hr kk
 show jQz _ [some (.ref m),some (.int (dr:Nat)),some (.int (cm:Nat)),some (.str (mkS r)),some (.int (k:Nat))] G
 have hs:=sz
 have hlm:s.ms.length<=24:=jKw ok.nd ok.lt
 have tail:∀G1:Gp,G1 m=some (.dck (mdL o n e s.at_))->G1 o=some (.lst (mksT (addR s.ms r)))->G1 n=some (.dck (manL (addR s.ms r) (addC s.ms s.ct r k)))->G1 e=some (.dct evs)->Kp [m,o,n,e] G G1->
   ∃G',setR G1 (T.ref e) (T.tup [T.str (mkS s.at_),T.int (dr:Nat)]) (T.tup [T.str (mkS r),T.int (cm:Nat)])=some G'/\∃t,ixR G' (T.ref m) (T.str (Str.ofString "at"))=some t/\2<=sizeLine/\∃t_1,ixR G' (T.ref m) (T.str (Str.ofString "ends"))=some t_1/\2<=sizeLine/\
    ∃G'_1,setR G' t_1 (T.tup [T.str (mkS r),T.int (cm:Nat)]) (T.tup [t,T.int (dr:Nat)])=some G'_1/\∃G',setR G'_1 (T.ref m) (T.str (Str.ofString "at")) (T.str (mkS r))=some G'/\Q T.non G':=by
  intro G1 g1 g2 g3 g4 kp
  have hl:=h.ok.len
  have h1:=jQ6 evs (keyM (s.at_,dr)) (encM (r,cm))
  have ga:∀x,gup G1 e (GO.dct x) m=some (.dck (mdL o n e s.at_)):=fun x=>by rw[jJi h.me];exact g1
  refine⟨_,jV1 g4 (qKj s.at_ dr) (by omega),_,mAt (ga _),by omega,_,mEnd (ga _),by omega,_,jV1 jJg (qKj r cm) (by show (putT evs (keyM (s.at_,dr)) (encM (r,cm))).length<_;omega),?_⟩
  rw[jUp]
  refine⟨_,sAt (r':=r) (ga _),kk (ev1 evs (s.at_,dr) (r,cm)) _ ⟨?_,?_,?_,?_,h.ok.go ok hr,h.ne⟩ ?_⟩
  ·rw[jJg,goC_at ok]
  ·rw[jJi h.mo.symm,jJi h.oe];exact g2
  ·rw[jJi h.ne.symm,jJi h.ne'];exact g3
  ·rw[jJi h.me.symm,jJg];rfl
  ·exact (kp.trans (.gup (by simp))).trans (.gup (by simp))
 wp_walk using 1,jQz,mOrd h.obj,mMan h.obj,mEnd h.obj,mAt h.obj,jUy,kV5 h.ord ok.lt hr,jK5 h.ord,h.ord
 by_cases hm:r∈s.ms
 ·rw[if_neg (by simp[hm])]
  exact⟨by omega,by omega,tail G h.obj (by unfold addR;rw[if_pos hm];exact h.ord) (by unfold addR addC;rw[if_pos hm,if_pos hm];exact h.man) h.ens (.refl _ _)⟩
 ·rw[if_pos (by simp[hm])]
  have e1:mksT s.ms++[T.str (mkS r)]=mksT (addR s.ms r):=by unfold addR;rw[if_neg hm];simp[mksT]
  rw[e1]
  have ga:gup G o (GO.lst (mksT (addR s.ms r))) m=some (.dck (mdL o n e s.at_)):=by rw[jJi h.mo];exact h.obj
  have gn:gup G o (GO.lst (mksT (addR s.ms r))) n=some (.dck (manL s.ms s.ct)):=by rw[jJi h.no];exact h.man
  have em:manL (s.ms++[r]) (s.ct++[k])=manL (addR s.ms r) (addC s.ms s.ct r k):=by unfold addR addC;rw[if_neg hm,if_neg hm]
  have es:setR (gup G o (GO.lst (mksT (addR s.ms r)))) (.ref n) (.str (mkS r)) (.int (k:Nat))=some (gup (gup G o (GO.lst (mksT (addR s.ms r)))) n (.dck (manL (addR s.ms r) (addC s.ms s.ct r k)))):=by
   simp only[setR,gn,jQu]
   rw[if_pos (by simp[manL];omega),qKg ok.len ok.lt hr hm,em]
  have ga2:gup (gup G o (GO.lst (mksT (addR s.ms r)))) n (.dck (manL (addR s.ms r) (addC s.ms s.ct r k))) m=some (.dck (mdL o n e s.at_)):=by rw[jJi h.ne];exact ga
  refine⟨by rw[mksT,List.length_map];omega,_,mMan ga,_,es,by omega,_,mEnd ga2,_,mAt ga2,by omega,?_⟩
  refine tail _ ga2 ?_ jJg ?_ ((Kp.gup (by simp)).trans (.gup (by simp)))
  ·rw[jJi h.no.symm,jJg]
  ·rw[jJi h.ne'.symm,jJi h.oe.symm];exact h.ens
def optM:Option (Nat×Nat)->T
 | none=> .non
 | some e=>encM e
theorem EnOk.get (h:EnOk s evs)(hr:r<24):(valT evs (keyM (r,d))).getD .non=optM (s.E (r,d)):=by
 rw[h.val r d hr]
 cases s.E (r,d)<;>rfl
theorem dAt_M {d:Addr}(h:G d=some (.dct kvs)):dAt G (.ref d) (.tup [.str (mkS r),.int (i:Nat)])=some (valT kvs (keyM (r,i))):=by
 simp only[dAt,h,qKj]
def jKx:Sp3:=fun xs G Q=>∃(m o n e:Addr) (s:CS) (evs:Kvs),xs=[.ref m]/\MdAt G m o n e s evs/\s.Ok/\∀G',Sub G G'->Q (skT s) G'
def jYh:List Str:=["_law_model","_law_found","_law_mark_here","_law_ends","_law_door","_law_end"]
noncomputable def jKz:TS3:=
 (tSeq (tAsg (tLst tNil) (jJl 1))
 (tSeq (tFor (iSeq (tOp rIxF (tVar 0) (tC (.str (PySem.Str.ofString "order"))))) (jJl 2) (tSeq (tAsg (jYu [false,false,false,false,true,false] (jVm (jJa (tOp rIxF (tOp rIxF (tVar 0) (tC (.str (PySem.Str.ofString "many")))) (tVar 2)) tNil)) (jJl 4) kQ2 (tBM "dict" jY4 (tOp rIxF (tVar 0) (tC (.str (PySem.Str.ofString "ends")))) (jJa (tTup (jJa (tVar 2) (jJa (tVar 4) tNil))) tNil))) (jJl 3))
 (jXb (tBM "list" jQn (tVar 1) (jJa (tCB jQm (jJa (jYu [false,false,false,false,false,true] (iSeq (tVar 3)) (jJl 5) kQ2 (tIf (jJq (tOp rIsN (tVar 5) (tC .non))) (tC .non) (tTup (jJa (tBM "list" kK9 (tOp rIxF (tVar 0) (tC (.str (PySem.Str.ofString "order")))) (jJa (tOp rIxF (tVar 5) (tC (.int 0))) tNil)) (jJa (tOp rIxF (tVar 5) (tC (.int 1))) tNil))))) tNil)) tNil)))))
 (tRet (tCB jQm (jJa (tVar 1) tNil)))))
theorem jVe:RdOk jKx jKz jYh:=by
 intro xs G Q h_;apply xe6 h_;clear h_;intro m o n e s evs h_;apply ae3 h_;clear h_;intro h ok kk
 show jKz _ [some (.ref m),none,none,none,none,none] G
 have hs:=sz
 have hlm:s.ms.length<=24:=jKw ok.nd ok.lt
 wp_walk using 1,jKz,jVc,iSeq
 refine⟨Nat.zero_le _,fun q hq=> ?_⟩
 have hmq:=jJo h.obj hq
 have hoq:=jJo h.ord hq
 refine⟨_,mOrd (by rw[jJi hmq];exact h.obj),_,jJ4 (by rw[jJi hoq];exact h.ord),?_⟩
 let J1:Nat->St3->Gp->Prop:=fun i τ G'=>∃(v2 v3:Option T),τ=[some (.ref m),some (.ref q),v2,v3,none,none]/\G' q=some (.lst (skL s i))/\Sub G G'
 refine⟨J1,?_,?_,?_,?_⟩
 ·exact xi2 _ _ rfl ⟨jJg,.new hq⟩
 ·intro i τ G1 _ h_;apply xe2 h_;clear h_;intro v2 v3 h_;apply ae2 h_;clear h_;intro h2 h3
  exact jJ4 (h3 _ _ h.ord)
 ·intro i y τ G1 hy h_;apply xe2 h_;clear h_;intro v2 v3 h_;apply ae2 h_;clear h_;intro h2 h3
  obtain⟨r,hr,rfl⟩:=jQ2 hy
  have hi:i<s.ms.length:=(List.getElem?_eq_some_iff.mp hr).1
  have er:r=rmI s i:=by rw[qJ1 hi] at hr;exact (Option.some.inj hr).symm
  subst er
  have hk1:=kXv ok hi
  have hrl:=ok.lt _ (List.mem_of_getElem? hr)
  have h1:MdAt G1 m o n e s evs:=h.sub fun x u z _=>h3 x u z
  wp_walk using 1,jVm,iSeq,mMan h1.obj,kQj h1.man ok.nd ok.lt hr (kXw ok hi)
  refine⟨by omega,by omega,?_⟩
  rw[show ((ctI s i:Nat):Int).toNat=ctI s i by omega,jQ4]
  refine jV5 (fun d=>optM (s.E (rmI s i,d))) (by simp;omega) (fun _ _=>trivial) ?_ ?_
  ·intro j x hx G2 K K0 s2 hK
   obtain⟨hj,rfl⟩:=jQg hx
   have h4:MdAt G2 m o n e s evs:=h1.sub fun x u z _=>s2 x u z
   wp_walk using 1,jY4,mEnd h4.obj
   refine⟨by simp[tyT,h4.ens],by omega,valT evs (keyM (rmI s i,j)),dAt_M h4.ens,?_⟩
   rw[h.ok.get hrl];exact hK G2 (.refl _)
  ·intro D G2 hD hD2 s2
   have hq2:=s2 _ _ h2
   have s3:=h3.trans s2
   have h4:MdAt G2 m o n e s evs:=h.sub fun x u z _=>s3 x u z
   wp_walk using 1,jK5 hq2
   refine⟨_,jJ4 hD2,?_⟩
   refine jV5 (es:=List.range (ctI s i)) (enc:=fun d=>optM (s.E (rmI s i,d))) (fun d=>endT s (s.E (rmI s i,d))) (by simp;omega) (fun G' s'=>jJ4 (s' _ _ hD2)) ?_ ?_
   ·intro j x hx G3 K K0 s5 hK
    obtain⟨hj,rfl⟩:=jQg hx
    have h6:MdAt G3 m o n e s evs:=h4.sub fun x u z _=>s5 x u z
    cases he:s.E (rmI s i,j) with
    | none=>
     have hK':=hK G3 (.refl _)
     rw[he] at hK'
     wp_walk using 1,optM
     exact hK'
    | some p=>
     have hK':=hK G3 (.refl _)
     rw[he] at hK'
     wp_walk using 1,optM,encM,mOrd h6.obj,jK5 h6.ord
     exact kV7 h6.ord ok.nd ok.lt (ok.e1 _ _ he) ⟨by omega,hK'⟩
   ·intro D3 G3 hD3 hD4 s5
    have hq3:=s5 _ _ hq2
    refine⟨_,jJ4 hD4,?_⟩
    wp_walk using 1,hq3
    refine⟨by simp[skL];omega,xi2 _ _ rfl ⟨?_,(s3.trans s5).over hq⟩⟩
    rw[jJg]
    simp[skL,List.range_succ,rowT]
 ·intro τ G1 h_;apply xe2 h_;clear h_;intro v2 v3 h_;apply ae2 h_;clear h_;intro h2 h3
  wp_walk using 1,tSeq
  have el:(mksT s.ms).length=s.ms.length:=by simp[mksT]
  rw[el] at h2
  exact⟨_,jJ4 h2,kk G1 h3⟩
structure OkD (d:Nat) (x:T):Prop where
 tr:tree x=true
 lay:(td x).canLay0=true
 dep:(td x).depth<=d
 eq:eqT x x=true
theorem kKf {i:Int}:OkD d (.int i):=⟨rfl,rfl,by simp[td,PyData.depth],by simp[eqT]⟩
theorem qKa:OkD d .non:=⟨rfl,rfl,by simp[td,PyData.depth],by simp[eqT]⟩
theorem qKf:((List.range 24).all fun r=>(td (.str (mkS r))).canLay0)=true:=by decide +kernel
theorem jXq (h:r<24):OkD d (.str (mkS r)):=⟨rfl,List.all_eq_true.mp qKf r (List.mem_range.mpr h),by simp[td,PyData.depth],by simp[eqT]⟩
theorem kKg {d:Nat}:∀xs:List T,(∀x,x∈xs->OkD d x)->jKs xs=true/\PyData.canLayAll0 (tds xs)=true/\PyData.depthAll (tds xs)<=d/\eqTs xs xs=true
 | [],_=>⟨rfl,by simp[tds,PyData.canLayAll0],by simp[tds,PyData.depthAll],rfl⟩
 | x::xs,h=>by
  obtain⟨a1,a2,a3,a4⟩:=kKg xs fun y hy=>h y (List.mem_cons_of_mem _ hy)
  obtain⟨b1,b2,b3,b4⟩:=h x (List.mem_cons_self ..)
  refine⟨?_,?_,?_,?_⟩
  ·show (tree x&&jKs xs)=true;rw[a1,b1];rfl
  ·rw[tds,PyData.canLayAll0,a2,b2];rfl
  ·rw[tds,PyData.depthAll];omega
  ·show (eqT x x&&eqTs xs xs)=true;rw[a4,b4];rfl
theorem jVi (h:∀x,x∈xs->OkD d x):OkD (d+1) (.tup xs):=by
 obtain⟨a1,a2,a3,a4⟩:=kKg xs h
 exact⟨a1,by rw[td,PyData.canLay0];exact a2,by rw[td,PyData.depth];omega,a4⟩
theorem jZf {x:T}(h:OkD d x)(hd:d<=50)(hr:∀p,x≠ .ref p):eqG G x x=some true:=by
 have e:eqOk x=true:=by
  unfold eqOk
  rw[h.tr,h.lay,decide_eq_true (show (td x).depth<=50 by have:=h.dep;omega)];rfl
 have:eqG G x x=if eqOk x=true/\eqOk x=true then some (eqT x x) else none:=by
  cases x with
  | ref p=>exact absurd rfl (hr p)
  | _=>rfl
 rw[this,if_pos ⟨e,e⟩,h.eq]
theorem kXm {q:Addr}(hp:G p=some (.lst xs))(hq:G q=some (.lst xs))(h:∀x,x∈xs->OkD d x)(hd:d<50):eqG G (.ref p) (.ref q)=some true:=by
 obtain⟨a1,a2,a3,a4⟩:=kKg xs h
 have e:kKp xs=true:=by
  unfold kKp
  rw[a1,a2,decide_eq_true (show (PyData.list (tds xs)).depth<=50 by rw[PyData.depth];omega)];rfl
 simp only[eqG,hp,hq]
 rw[if_pos ⟨e,e⟩,a4]
theorem okD_E {e:Nat×Nat}:OkD 1 (encE e):=jVi fun x hx=>by
 simp only[List.not_mem_nil,List.mem_cons,or_false] at hx
 rcases hx with rfl | rfl<;>exact kKf
theorem qKb (s:CS)(x:Option (Nat×Nat)):OkD 1 (endT s x):=by
 cases x with
 | none=>exact qKa
 | some e=>exact okD_E
theorem okD_sk (s:CS):OkD 3 (skT s):=jVi fun x hx=>by
 obtain⟨i,_,rfl⟩:=List.mem_map.mp hx
 refine jVi fun x hx=> ?_
 obtain⟨d,_,rfl⟩:=List.mem_map.mp hx
 exact qKb s _
theorem okD_rm (ok:s.Ok):OkD 2 (rmT s):=jVi fun x hx=>by
 unfold zipT at hx
 obtain⟨p,hp,rfl⟩:=List.mem_map.mp hx
 obtain⟨h1,h2⟩:=List.of_mem_zip hp
 refine jVi fun x hx=> ?_
 simp only[List.not_mem_nil,List.mem_cons,or_false] at hx
 rcases hx with rfl | rfl
 ·obtain⟨r,hr,e⟩:=List.mem_map.mp h1;rw[<-e];exact jXq (ok.lt r hr)
 ·obtain⟨r,_,e⟩:=List.mem_map.mp h2;rw[<-e];exact kKf
theorem okD_op {n:Nat}:∀x,x∈opL s n->OkD 1 x:=fun x hx=>by
 obtain⟨i,_,h⟩:=List.mem_flatMap.mp hx
 obtain⟨d,_,e⟩:=List.mem_filterMap.mp h
 split at e
 ·cases e;exact okD_E
 ·cases e
theorem qJo (ok:s.Ok):(s.ms.map fun r=>T.tup [.str (mkS r),.int (ctI s (s.ms.idxOf r):Nat)])=zipT (mksT s.ms) (jK8 s.ct):=by
 apply List.ext_getElem?
 intro i
 unfold zipT
 rw[List.getElem?_map,List.getElem?_map]
 by_cases hi:i<s.ms.length
 ·have h1:=qJ1 hi
  have h2:=kXw ok hi
  have h3:((mksT s.ms).zip (jK8 s.ct))[i]? =some (.str (mkS (rmI s i)),.int (ctI s i:Nat)):=List.getElem?_zip_eq_some.mpr ⟨by rw[mksT,List.getElem?_map,h1];rfl,by rw[jK8,List.getElem?_map,h2];rfl⟩
  rw[h1,h3]
  simp only[Option.map_some]
  rw[kJc ok.nd h1]
 ·rw[List.getElem?_eq_none (by omega),List.getElem?_eq_none (by simp[mksT,jK8,ok.len];omega)];rfl
noncomputable def jKa:Sp3:=fun xs G Q=>∃(a b c d m o n e:Addr) (s:CS) (kvs evs:Kvs),xs=[.ref a,.ref m]/\ChAt G a b c d s kvs/\MdAt G m o n e s evs/\s.Ok/\∀G',Sub G G'->Q (.bl true) G'
def jX8:List Str:=["_law_chart","_law_model","_law_told_here","_law_due_here","_law_found","_law_room","_law_mark_here","_law_door"]
noncomputable def jKt:TS3:=
 (tSeq (tAsg (tCB jQm (jJa (jYu [false,false,false,false,false,false,true,false] (iSeq (tOp rIxF (tVar 1) (tC (.str (PySem.Str.ofString "order"))))) (jJl 6) kQ2 (tTup (jJa (tVar 6) (jJa (tOp rIxF (tOp rIxF (tVar 1) (tC (.str (PySem.Str.ofString "many")))) (tVar 6)) tNil)))) tNil)) (jJl 2))
 (tSeq (tIfS (tOr (jJq (tOp rNeA (jVq "Chart" "here" jQf (tVar 0) tNil) (tOp rIxF (tVar 1) (tC (.str (PySem.Str.ofString "at")))))) (jJq (tOp rNeA (jVq "Chart" "rooms" jK6 (tVar 0) tNil) (tVar 2)))) (tRet (tC (.bl false))) jJ5)
 (tSeq (tAsg (jJr jKx (jJa (tVar 1) tNil)) (jJl 3))
 (tSeq (tAsg (tLst tNil) (jJl 4))
 (tSeq (tFor (jVm (jJa (tCB rLen (jJa (tVar 3) tNil)) tNil)) (jJl 5) (jXb (tBM "list" kKb (tVar 4) (jJa (jYu [false,false,false,false,false,false,false,true] (jVm (jJa (tCB rLen (jJa (tOp rIxF (tVar 3) (tVar 5)) tNil)) tNil)) (jJl 7) (jJq (tOp rIsN (tOp rIxF (tOp rIxF (tVar 3) (tVar 5)) (tVar 7)) (tC .non))) (tTup (jJa (tVar 5) (jJa (tVar 7) tNil)))) tNil))))
 (tRet (qJs (tOp rEqA (jVq "Chart" "sketch" jKh (tVar 0) tNil) (tVar 3)) (tOp rEqA (jVq "Chart" "open_doors" jKb (tVar 0) tNil) (tVar 4)))))))))
theorem jUw:RdOk jKa jKt jX8:=by
 intro xs G Q h_;apply xe11 h_;clear h_;intro a b c d m o n e s kvs evs h_;apply ae4 h_;clear h_;intro hc h ok kk
 show jKt _ [some (.ref a),some (.ref m),none,none,none,none,none,none] G
 have hs:=sz
 have hlm:s.ms.length<=24:=jKw ok.nd ok.lt
 wp_walk using 1,jKt,iSeq,mOrd h.obj
 refine⟨_,jJ4 h.ord,?_⟩
 refine jV5 (es:=s.ms) (enc:=fun r=>T.str (mkS r)) (fun r=>T.tup [.str (mkS r),.int (ctI s (s.ms.idxOf r):Nat)]) (by omega) (fun G' s'=>jJ4 (s' _ _ h.ord)) ?_ ?_
 ·intro j r hr G2 K K0 s2 hK
  have h4:MdAt G2 m o n e s evs:=h.sub fun x u z _=>s2 x u z
  have hj:j<s.ms.length:=(List.getElem?_eq_some_iff.mp hr).1
  have hx:=kJc ok.nd hr
  wp_walk using 1,mMan h4.obj,kQj h4.man ok.nd ok.lt hr (kXw ok hj)
  refine⟨by omega,?_⟩
  have:=hK G2 (.refl _)
  rw[hx] at this;exact this
 ·intro D G2 hD hD2 s2
  have h4:MdAt G2 m o n e s evs:=h.sub fun x u z _=>s2 x u z
  have hc4:ChAt G2 a b c d s kvs:=hc.sub fun x u z _=>s2 x u z
  rw[qJo ok] at hD2
  refine⟨_,jJ4 hD2,?_⟩
  wp_walk using 1,jVq,rNeA,rEqA,jVc,jVm
  have hat:=ok.lt _ ok.mem
  refine⟨jZ4 hc4.obj,a,b,c,d,s,kvs,rfl,hc4,ok,_,mAt h4.obj,true,jZf (d:=0) (jXq hat) (by decide) (fun p z=>by cases z),?_⟩
  rw[if_neg (by simp)]
  refine⟨jZ4 hc4.obj,a,b,c,d,s,kvs,rfl,hc4,ok,true,jZf (okD_rm ok) (by decide) (fun p z=>by cases z),?_⟩
  rw[if_neg (by simp)]
  refine⟨m,o,n,e,s,evs,rfl,h4,ok,fun G3 s3=>⟨by omega,fun q hq=>⟨skL s s.ms.length,rfl,?_⟩⟩⟩
  have el:(skL s s.ms.length).length=s.ms.length:=by simp[skL]
  rw[el]
  have s4:=s2.trans s3
  refine⟨by omega,by omega,?_⟩
  rw[show ((s.ms.length:Nat):Int).toNat=s.ms.length by omega,jQ4]
  let J1:Nat->St3->Gp->Prop:=fun i τ G'=>∃v5:Option T,τ=[some (.ref a),some (.ref m),some (.tup (zipT (mksT s.ms) (jK8 s.ct))),some (skT s),some (.ref q),v5,none,none]/\G' q=some (.lst (opL s i))/\Sub G3 G'
  refine⟨J1,?_,?_,?_,?_⟩
  ·exact⟨_,rfl,jJg,.new hq⟩
  ·intros;trivial
  ·intro i y τ G4 hy h_;apply xe1 h_;clear h_;intro v5 h_;apply ae2 h_;clear h_;intro g2 g3
   obtain⟨i',hi',rfl⟩:=jQ2 hy
   obtain⟨hi,rfl⟩:=jQg hi'
   have hk1:=kXv ok hi
   have hrow:L2.atI (skL s s.ms.length) (i:Int)=some (.tup (rowT s i)):=by
    rw[atN,skL,List.getElem?_map,List.getElem?_range hi];rfl
   have hrl:(rowT s i).length=ctI s i:=by simp[rowT]
   have hrw:∀G':Gp,ixR G' (skT s) (.int (i:Nat))=some (.tup (rowT s i)):=fun _=>hrow
   wp_walk using 1,jVm,jK5 g2,hrw,hrl
   refine⟨by omega,by omega,?_⟩
   rw[show ((ctI s i:Nat):Int).toNat=ctI s i by omega,jQ4]
   refine jZk (fun d=>if (s.E (rmI s i,d)).isNone=true then some (encE (i,d)) else none) (by simp;omega) (fun _ _=>trivial) ?_ ?_
   ·intro j x hx G5 K K0 s5 hK hK0
    obtain⟨hj,rfl⟩:=jQg hx
    have hat2:L2.atI (rowT s i) (j:Int)=some (endT s (s.E (rmI s i,j))):=by rw[atN];exact kVc hj
    wp_walk using 1,hrw,hat2
    cases he:s.E (rmI s i,j) with
    | none=>wp_walk using 1,endT;exact⟨by omega,hK _ _ (by rw[he];rfl) (.refl _)⟩
    | some p=>wp_walk using 1,endT,encE;exact hK0 (by rw[he];rfl) _ (.refl _)
   ·intro D5 G5 hD5 hD6 s5
    have hl:=kKd ok (n:=i) (by omega)
    have hr:(opR s i).length<=ctI s i:=by have:=List.length_filterMap_le (fun d=>if (s.E (rmI s i,d)).isNone=true then some (encE (i,d)) else none) (List.range (ctI s i));rw[List.length_range] at this;exact this
    refine⟨q,D5,_,_,rfl,rfl,s5 _ _ g2,hD6,by show (opL s i).length+(opR s i).length<=_;omega,⟨_,rfl,?_,(g3.trans s5).over hq⟩⟩
    rw[jJg,jY5];rfl
  ·intro τ G4 h_;apply xe1 h_;clear h_;intro v5 h_;apply ae2 h_;clear h_;intro g2 g3
   rw[List.length_map,List.length_range] at g2
   have s5:=s4.trans g3
   have hc5:ChAt G4 a b c d s kvs:=hc.sub fun x u z _=>s5 x u z
   wp_walk using 1,jVq,rEqA
   refine⟨jZ4 hc5.obj,a,b,c,d,s,kvs,rfl,hc5,ok,fun G5 s6=>⟨true,jZf (okD_sk s) (by decide) (fun p z=>by cases z),?_⟩⟩
   rw[if_pos rfl]
   have s7:=s5.trans s6
   have hc6:ChAt G5 a b c d s kvs:=hc.sub fun x u z _=>s7 x u z
   exact⟨jZ4 hc6.obj,a,b,c,d,s,kvs,rfl,hc6,ok,fun p G6 hp hp6 s8=>⟨true,kXm hp6 (s8 _ _ (s6 _ _ g2)) okD_op (by decide),kk G6 (s7.trans s8)⟩⟩
def jKr (s:CS)(k0:Nat)(di:Int)(c r k:Nat):Option Str:=if ¬ (0<=di/\di<k0)\/k<=c then some "NoDoor" else dueX s di.toNat c r k
def kJy:Option Str->T
 | none=> .non
 | some cn=> .str ((jKe cn).getD (PySem.Str.ofString "door"))
theorem kZh (lt:∀x,x∈ms->x<24)(hr:r<24)(hm:r∉ms):valT (manL ms ct) (Sum.inr (mkS r))=none:=by
 unfold valT
 rw[Option.map_eq_none_iff,List.find?_eq_none]
 intro x hx z
 (obtain⟨y,hy,rfl⟩:=List.mem_map.mp hx)
 have z:=of_decide_eq_true z
 have hy1:y.1∈ms:=(List.of_mem_zip hy).1
 exact hm (jZ6 (lt _ hy1) hr (Sum.inr.inj z)▸hy1)
theorem kQe (o:s.Ok){k:Nat}(hr:r<24):(valT (manL s.ms s.ct) (Sum.inr (mkS r))).getD (.int (k:Nat))= .int (((s.ct[s.ms.idxOf r]?).getD k:Nat):Int):=by
 by_cases hm:r∈s.ms
 ·have hl:s.ms.idxOf r<s.ct.length:=by rw[o.len];exact kZo hm
  rw[kKm o.nd o.lt (jU6 hm) (List.getElem?_eq_getElem hl),List.getElem?_eq_getElem hl];rfl
 ·rw[kZh o.lt hr hm,kJb hm,<-o.len,List.getElem?_eq_none (Nat.le_refl _)];rfl
theorem okOf {x:T}(h:OkD d x)(hd:d<=50):eqOk x=true:=by
 unfold eqOk
 rw[h.tr,h.lay,decide_eq_true (show (td x).depth<=50 by have:=h.dep;omega)];rfl
theorem okD_M {p:Nat×Nat}(hp:p.1<24):OkD 1 (encM p):=jVi fun x hx=>by
 (simp only[List.mem_cons,List.not_mem_nil,or_false] at hx)
 rcases hx with rfl | rfl
 ·exact jXq hp
 ·exact kKf
theorem eqM {p:Nat×Nat}(hp:p.1<24)(hq:q.1<24):eqG G (encM p) (encM q)=some (decide (p=q)):=by
 show (if eqOk (encM p)=true/\eqOk (encM q)=true then some (eqT (encM p) (encM q)) else none)=_
 rw[if_pos ⟨okOf (okD_M hp) (by decide),okOf (okD_M hq) (by decide)⟩]
 congr 1
 obtain⟨a,b⟩:=p;obtain⟨c,d⟩:=q
 have e1:eqT (encM (a,b)) (encM (c,d))=(eqT (.str (mkS a)) (.str (mkS c))&&(eqT (.int (b:Nat)) (.int (d:Nat))&&true)):=rfl
 rw[e1,kXk hp hq]
 simp only[eqT,Bool.and_true]
 rw[Bool.eq_iff_iff]
 simp
 intro _;omega
theorem kKq (h:G e=some (.dct evs))(k:EnOk s evs)(hr:r<24):dAt G (.ref e) (.tup [.str (mkS r),.int (d:Nat)])=some ((s.E (r,d)).map encM):=by
 have:dAt G (.ref e) (.tup [.str (mkS r),.int (d:Nat)])=some (valT evs (keyM (r,d))):=by
  simp only[dAt,h];rfl
 rw[this,k.val r d hr]
theorem kXp (ok:s.Ok){p:Nat×Nat}(hq:q.1<24):eqG G (((s.E p).map encM).getD (encM q)) (encM q)=some (decide ((s.E p).getD q=q)):=by
 cases e:s.E p with
 | none=>simp only[Option.map_none,Option.getD_none];rw[eqM hq hq];simp
 | some x=>simp only[Option.map_some,Option.getD_some];exact eqM (ok.lt _ (ok.e1 _ _ e)) hq
noncomputable def jYw:Sp3:=fun xs G Q=>∃(m o n e:Addr) (s:CS) (evs:Kvs) (di:Int) (cm r k k0:Nat),xs=[.ref m,.int di,.int (cm:Nat),.str (mkS r),.int (k:Nat)]/\MdAt G m o n e s evs/\s.Ok/\r<24/\s.ct[s.pl]? =some k0/\Q (kJy (jKr s k0 di cm r k)) G
def qQe:List Str:=["_law_model","_law_door","_law_came","_law_mark_here","_law_doors"]
noncomputable def jY2:TS3:=
 (tSeq (tIfS (tOr (tNot (jJq (jYj rLeF rLt (tC (.int 0)) (tVar 1) (tOp rIxF (tOp rIxF (tVar 0) (tC (.str (PySem.Str.ofString "many")))) (tOp rIxF (tVar 0) (tC (.str (PySem.Str.ofString "at")))))))) (jJq (tOp rGe (tVar 2) (tVar 4)))) (tRet (tC (.str (PySem.Str.ofString "door")))) jJ5)
 (tSeq (tIfS (jJq (tOp rNeA (tBM "dict" jZz (tOp rIxF (tVar 0) (tC (.str (PySem.Str.ofString "many")))) (jJa (tVar 3) (jJa (tVar 4) tNil))) (tVar 4))) (tRet (tC (.str (PySem.Str.ofString "doors")))) jJ5)
 (tSeq (tIfS (jJq (tOp rNeA (tBM "dict" kKa (tOp rIxF (tVar 0) (tC (.str (PySem.Str.ofString "ends")))) (jJa (tTup (jJa (tOp rIxF (tVar 0) (tC (.str (PySem.Str.ofString "at")))) (jJa (tVar 1) tNil))) (jJa (tTup (jJa (tVar 3) (jJa (tVar 2) tNil))) tNil))) (tTup (jJa (tVar 3) (jJa (tVar 2) tNil))))) (tRet (tC (.str (PySem.Str.ofString "end")))) jJ5)
 (tSeq (tIfS (jJq (tOp rNeA (tBM "dict" kKa (tOp rIxF (tVar 0) (tC (.str (PySem.Str.ofString "ends")))) (jJa (tTup (jJa (tVar 3) (jJa (tVar 2) tNil))) (jJa (tTup (jJa (tOp rIxF (tVar 0) (tC (.str (PySem.Str.ofString "at")))) (jJa (tVar 1) tNil))) tNil))) (tTup (jJa (tOp rIxF (tVar 0) (tC (.str (PySem.Str.ofString "at")))) (jJa (tVar 1) tNil))))) (tRet (tC (.str (PySem.Str.ofString "taken")))) jJ5)
 (tRet (tC .non))))))
theorem kQ6:RdOk jYw jY2 qQe:=by
 intro xs G Q h_;apply xe11 h_;clear h_;intro m o n e s evs di cm r k k0 h_;apply ae5 h_;clear h_;intro h ok hr hk0 kk
 show jY2 _ [some (.ref m),some (.int di),some (.int (cm:Nat)),some (.str (mkS r)),some (.int (k:Nat))] G
 have hs:=sz
 have hat:s.at_<24:=ok.lt _ ok.mem
 wp_walk using 1,jY2,jYj,rLeF,jZz,kKa,rNeA,mMan h.obj,mEnd h.obj,mAt h.obj,kQj h.man ok.nd ok.lt ok.at_ hk0
 by_cases z0:0<=di
 ·rw[if_pos z0]
  by_cases z1:di<(k0:Int)
  ·rw[decide_eq_true z1,if_neg (by simp)]
   by_cases z2:k<=cm
   ·rw[if_pos (by exact_mod_cast z2)]
    have:jKr s k0 di cm r k=some ("NoDoor":Str):=by unfold jKr;rw[if_pos (.inr z2)]
    rw[this] at kk
    exact kk
   ·rw[if_neg (by omega)]
    obtain⟨dr,rfl⟩:∃dr:Nat,di=dr:=⟨di.toNat,by omega⟩
    have ed:jKr s k0 (dr:Nat) cm r k=dueX s dr cm r k:=by unfold jKr;rw[if_neg (by rintro (z | z);exact z ⟨z0,z1⟩;exact z2 z)];rfl
    rw[ed] at kk
    have td:tyT G "dict" (.ref e):=by simp[tyT,h.ens]
    refine⟨by simp[tyT,h.man],_,h.man,_,rfl,_,by rw[kQe ok hr];exact jXz,?_⟩
    by_cases a0:(s.ct[s.ms.idxOf r]?).getD k=k
    ·rw[decide_eq_true a0,if_neg (by simp)]
     refine⟨td,by omega,by omega,_,kKq h.ens h.ok hat,by omega,_,kXp (q:=(r,cm)) ok hr,?_⟩
     by_cases a1:(s.E (s.at_,dr)).getD (r,cm)=(r,cm)
     ·rw[decide_eq_true a1,if_neg (by simp)]
      refine⟨td,by omega,by omega,_,kKq h.ens h.ok hr,by omega,_,kXp (q:=(s.at_,dr)) ok hat,?_⟩
      by_cases a2:(s.E (r,cm)).getD (s.at_,dr)=(s.at_,dr)
      ·rw[decide_eq_true a2,if_neg (by simp)]
       rw[show dueX s dr cm r k=none by unfold dueX;rw[if_neg (not_not_intro a0),if_neg (not_not_intro a1),if_neg (not_not_intro a2)]] at kk
       exact kk
      ·rw[decide_eq_false a2,if_pos rfl]
       rw[show dueX s dr cm r k=some ("Clash:taken":Str) by unfold dueX;rw[if_neg (not_not_intro a0),if_neg (not_not_intro a1),if_pos a2]] at kk
       exact kk
     ·rw[decide_eq_false a1,if_pos rfl]
      rw[show dueX s dr cm r k=some ("Clash:end":Str) by unfold dueX;rw[if_neg (not_not_intro a0),if_pos a1]] at kk
      exact kk
    ·rw[decide_eq_false a0,if_pos rfl]
     rw[show dueX s dr cm r k=some ("Clash:doors":Str) by unfold dueX;rw[if_pos a0]] at kk
     exact kk
  ·rw[decide_eq_false z1,if_pos rfl]
   have:jKr s k0 di cm r k=some ("NoDoor":Str):=by unfold jKr;rw[if_pos (.inl fun z=>z1 z.2)]
   rw[this] at kk
   exact kk
 ·rw[if_neg z0]
  have:jKr s k0 di cm r k=some ("NoDoor":Str):=by unfold jKr;rw[if_pos (.inl fun z=>z0 z.1)]
  rw[this] at kk
  exact kk
def exN:List Str:=["NoDoor","Clash:doors","Clash:end","Clash:taken"]
variable {di:Int}{cn:Str}
theorem kXq {k0:Nat}{c k:Nat}(h:jKr s k0 di c r k=some cn):cn∈exN:=by
 unfold jKr dueX at h
 unfold exN
 split at h
 ·cases h;simp
 ·split at h
  ·cases h;simp
  ·split at h
   ·cases h;simp
   ·split at h
    ·cases h;simp
    ·cases h
def kZ4:List Str:=["_law_chart","_law_door","_law_came","_law_mark_here","_law_doors","_law_caught","error"]
noncomputable def jXi:TS3:=
 (tSeq (tAsg (tC .non) (jJl 5))
 (tSeq (tTry 6 ["NoDoor","Clash:doors","Clash:end","Clash:taken"] (kK5 (kK4 "Chart" "went" jKg (tVar 0) (jJa (tVar 1) (jJa (tVar 2) (jJa (tVar 3) (jJa (tVar 4) tNil)))))) (tAsg (tVar 6) (jJl 5)))
 (tSeq (tIfS (jJq (tOp rIsN (tVar 5) (tC .non))) (tRet (tC .non)) jJ5)
 (tSeq (tIfS (tOr (jJq (jVb [("NoDoor",false),("Clash:doors",false),("Clash:end",false),("Clash:taken",false)] (tVar 5))) (tNot (jJq (jVb [("NoDoor",true),("Clash:doors",true),("Clash:end",true),("Clash:taken",true)] (tVar 5))))) (tRet (tC (.str (PySem.Str.ofString "other")))) jJ5)
 (tSeq (tIfS (jJq (tOp rEqA (jVb [("NoDoor",true),("Clash:doors",false),("Clash:end",false),("Clash:taken",false)] (tVar 5)) (jVb [("NoDoor",false),("Clash:doors",true),("Clash:end",true),("Clash:taken",true)] (tVar 5)))) (tRet (tC (.str (PySem.Str.ofString "other")))) jJ5)
 (tRet (tIf (jJq (jVb [("NoDoor",false),("Clash:doors",true),("Clash:end",true),("Clash:taken",true)] (tVar 5))) (tWhy (tVar 5)) (tC (.str (PySem.Str.ofString "door"))))))))))
noncomputable def jQ5:TS3:=(tSeq (tIfS (jJq (tOp rIsN (tVar 5) (tC .non))) (tRet (tC .non)) jJ5)
 (tSeq (tIfS (tOr (jJq (jVb [("NoDoor",false),("Clash:doors",false),("Clash:end",false),("Clash:taken",false)] (tVar 5))) (tNot (jJq (jVb [("NoDoor",true),("Clash:doors",true),("Clash:end",true),("Clash:taken",true)] (tVar 5))))) (tRet (tC (.str (PySem.Str.ofString "other")))) jJ5)
 (tSeq (tIfS (jJq (tOp rEqA (jVb [("NoDoor",true),("Clash:doors",false),("Clash:end",false),("Clash:taken",false)] (tVar 5)) (jVb [("NoDoor",false),("Clash:doors",true),("Clash:end",true),("Clash:taken",true)] (tVar 5)))) (tRet (tC (.str (PySem.Str.ofString "other")))) jJ5)
 (tRet (tIf (jJq (jVb [("NoDoor",false),("Clash:doors",true),("Clash:end",true),("Clash:taken",true)] (tVar 5))) (tWhy (tVar 5)) (tC (.str (PySem.Str.ofString "door"))))))))
theorem jZw:jXi=(tSeq (tAsg (tC .non) (jJl 5)) (tSeq (tTry 6 ["NoDoor","Clash:doors","Clash:end","Clash:taken"] (kK5 (kK4 "Chart" "went" jKg (tVar 0) (jJa (tVar 1) (jJa (tVar 2) (jJa (tVar 3) (jJa (tVar 4) tNil)))))) (tAsg (tVar 6) (jJl 5))) jQ5)):=rfl
theorem tl0:kJy (some ("NoDoor":Str))= .str (PySem.Str.ofString "door"):=by
 show T.str ((jKe ("NoDoor":Str)).getD (PySem.Str.ofString "door"))=_
 rw[show jKe ("NoDoor":Str)=none by decide +kernel];rfl
theorem tl1:jKe ("Clash:doors":Str)=some "doors":=by decide +kernel
theorem tl2:jKe ("Clash:end":Str)=some "end":=by decide +kernel
theorem tl3:jKe ("Clash:taken":Str)=some "taken":=by decide +kernel
theorem tlw (h:jKe cn=some y):kJy (some cn)= .str y:=by
 show T.str ((jKe cn).getD (PySem.Str.ofString "door"))=_
 rw[h];rfl
theorem kUz {v0 v1 v2 v3 v4 v6:Option T}(kk:Q .non G):jQ5 {nx:=fun _ G'=>Q .non G',rt:=Q} [v0,v1,v2,v3,v4,some .non,v6] G:=by
 wp_walk using 1,jQ5
 exact kk
theorem kU0 {v0 v1 v2 v3 v4 v6:Option T}(hp:G p=some (.exc cn))(hc:cn∈exN)(kk:Q (kJy (some cn)) G):jQ5 {nx:=fun _ G'=>Q .non G',rt:=Q} [v0,v1,v2,v3,v4,some (.ref p),v6] G:=by
 have eb:∀x y:Bool,eqG G (.bl x) (.bl y)=some (x == y):=fun x y=>by cases x<;>cases y<;>rfl
 unfold exN at hc
 simp only[List.mem_cons,List.not_mem_nil,or_false] at hc
 wp_walk using 1,jQ5,jVb,tWhy,rEqA
 rcases hc with rfl | rfl | rfl | rfl
 ·refine⟨_,hp,false,by simp,?_⟩
  rw[if_neg (by simp)]
  refine⟨_,hp,true,by simp,?_⟩
  rw[if_neg (by simp)]
  refine⟨_,hp,true,by simp,_,hp,false,by simp,_,eb _ _,?_⟩
  rw[if_neg (by decide)]
  refine⟨_,hp,false,by simp,?_⟩
  rw[if_neg (by simp)]
  rw[tl0] at kk
  exact kk
 ·refine⟨_,hp,false,by simp,?_⟩
  rw[if_neg (by simp)]
  refine⟨_,hp,true,by simp,?_⟩
  rw[if_neg (by simp)]
  refine⟨_,hp,false,by simp,_,hp,true,by simp,_,eb _ _,?_⟩
  rw[if_neg (by decide)]
  refine⟨_,hp,true,by simp,?_⟩
  rw[if_pos rfl]
  rw[tlw tl1] at kk
  exact⟨_,hp,_,tl1,kk⟩
 ·refine⟨_,hp,false,by simp,?_⟩
  rw[if_neg (by simp)]
  refine⟨_,hp,true,by simp,?_⟩
  rw[if_neg (by simp)]
  refine⟨_,hp,false,by simp,_,hp,true,by simp,_,eb _ _,?_⟩
  rw[if_neg (by decide)]
  refine⟨_,hp,true,by simp,?_⟩
  rw[if_pos rfl]
  rw[tlw tl2] at kk
  exact⟨_,hp,_,tl2,kk⟩
 ·refine⟨_,hp,false,by simp,?_⟩
  rw[if_neg (by simp)]
  refine⟨_,hp,true,by simp,?_⟩
  rw[if_neg (by simp)]
  refine⟨_,hp,false,by simp,_,hp,true,by simp,_,eb _ _,?_⟩
  rw[if_neg (by decide)]
  refine⟨_,hp,true,by simp,?_⟩
  rw[if_pos rfl]
  rw[tlw tl3] at kk
  exact⟨_,hp,_,tl3,kk⟩
noncomputable def jUu:Sp3:=fun xs G Q=>∃(a b c d:Addr) (s:CS) (kvs:Kvs) (di:Int) (cm r k k0:Nat),xs=[.ref a,.int di,.int (cm:Nat),.str (mkS r),.int (k:Nat)]/\ChAt G a b c d s kvs/\s.Ok/\s.n<=400/\r<24/\k<12/\s.ct[s.pl]? =some k0/\
 (∀cn,jKr s k0 di cm r k=some cn->∀G',Sub G G'->Q (kJy (some cn)) G')/\∀dr:Nat,di=dr->jKr s k0 di cm r k=none->∀d' kvs' G',G d'=none->ChAt G' a b c d' (goC s dr cm r k) kvs'->Kp [a,b,c] G G'->Q .non G'
theorem kKi:Mono jUu:=by
 rintro xs G Q Q' hq ⟨a,b,c,d,s,kvs,di,cm,r,k,k0,h1,h2,h3,h4,h5,h6,h7,f1,f2⟩
 exact⟨a,b,c,d,s,kvs,di,cm,r,k,k0,h1,h2,h3,h4,h5,h6,h7,fun cn z G' z2=>hq _ _ (f1 cn z G' z2),fun dr z z2 d' kvs' G' z3 z4 z5=>hq _ _ (f2 dr z z2 d' kvs' G' z3 z4 z5)⟩
theorem kJ3:RdOk jUu jXi kZ4:=by
 intro xs G Q h_;apply xe11 h_;clear h_;intro a b c d s kvs di cm r k k0 h_;apply ae8 h_;clear h_;intro h o hn hr hk hk0 kX kG
 show jXi _ [some (.ref a),some (.int di),some (.int (cm:Nat)),some (.str (mkS r)),some (.int (k:Nat)),none,none] G
 wp_walk using 1,jZw,tTry,kK5,kK4
 have exc:∀cn,jKr s k0 di cm r k=some cn->cn∈exN/\∀p,G p=none->jQ5 {nx:=fun _ G'=>Q .non G',rt:=Q} [some (.ref a),some (.int di),some (.int (cm:Nat)),some (.str (mkS r)),some (.int (k:Nat)),some (.ref p),none] (gup G p (.exc cn)):=fun cn hcn=>⟨kXq hcn,fun p hp=>kU0 jJg (kXq hcn) (kX cn hcn _ (.new hp))⟩
 have ed:∀dr:Nat,di=dr->dr<k0->cm<k->jKr s k0 di cm r k=dueX s dr cm r k:=fun dr h1 h2 h3=>by
  subst h1
  unfold jKr
  rw[if_neg (by omega)];rfl
 exact⟨jZ4 h.obj,a,b,c,d,s,kvs,di,cm,r,k,k0,rfl,h,o,hn,hr,hk,hk0,fun z=>exc _ (by unfold jKr;rw[if_pos z]),fun dr hdi hdr hcm=>⟨fun cn hcn=>exc cn ((ed dr hdi hdr hcm).trans hcn),fun hd d' kvs' G' hn' ch' kp=>kUz (kG dr hdi ((ed dr hdi hdr hcm).trans hd) d' kvs' G' hn' ch' kp)⟩⟩
theorem EnOk.at_int (h:G e=some (.dct evs))(k:EnOk s evs)(hr:r<24)(di:Int):∃o:Option (Nat×Nat),dAt G (.ref e) (.tup [.str (mkS r),.int di])=some (o.map encM)/\∀q,o=some q->∃p,s.E p=some q:=by
 by_cases hd:0<=di
 ·obtain⟨d,rfl⟩:∃d:Nat,di=d:=⟨di.toNat,by omega⟩
  exact⟨s.E (r,d),kKq h k hr,fun q z=>⟨_,z⟩⟩
 ·refine⟨none,?_,fun q z=>nomatch z⟩
  have:dAt G (.ref e) (.tup [.str (mkS r),.int di])=some (valT evs [.inl (.inr (mkS r)),.inl (.inl di)]):=by
   simp only[dAt,h];rfl
  rw[this,kK2 fun x hx z=> ?_];rfl
  obtain⟨p,hp⟩:=k.ks x hx
  rw[hp] at z
  unfold keyM at z
  simp only[List.cons.injEq,Sum.inl.injEq,and_true] at z
  have:=z.2
  omega
def kZ6:List Str:=["_law_box_here","_law_model","_law_at","_law_door","_law_known","_law_mark_here","_law_doors","_law_came"]
noncomputable def jXk:TS3:=
 (tSeq (tAsg (tOp rIxF (tVar 1) (tC (.str (PySem.Str.ofString "at")))) (jJl 2))
 (tSeq (tAsg (jJr jJf (jJa (tVar 0) (jJa (tCB rMax (jJa (tC (.int 1)) (jJa (tOp jKu (tOp rIxF (tOp rIxF (tVar 1) (tC (.str (PySem.Str.ofString "many")))) (tVar 2)) (tCB jQt (jJa (tOp rEqA (jJr jJf (jJa (tVar 0) (jJa (tC (.int 6)) tNil))) (tC (.int 0))) tNil))) tNil))) tNil))) (jJl 3))
 (tSeq (tIfS (jJq (tOp rEqA (jJr jJf (jJa (tVar 0) (jJa (tC (.int 16)) tNil))) (tC (.int 0)))) (tAsg (tUn rNeg (tC (.int 1))) (jJl 3)) jJ5)
 (tSeq (tAsg (tBM "dict" jY4 (tOp rIxF (tVar 1) (tC (.str (PySem.Str.ofString "ends")))) (jJa (tTup (jJa (tVar 2) (jJa (tVar 3) tNil))) tNil)) (jJl 4))
 (tSeq (tAsg (jJr jKy (jJa (jJr jJf (jJa (tVar 0) (jJa (tOp rIxF (tLst (jJa (tC (.int 4)) (jJa (tC (.int 12)) tNil))) (tCB jQt (jJa (tOp rEqA (jJr jJf (jJa (tVar 0) (jJa (tC (.int 3)) tNil))) (tC (.int 0))) tNil))) tNil))) tNil)) (jJl 5))
 (tSeq (tIfS (tAnd (jJq (tOp jZy (tVar 4) (tC .non))) (jJq (tOp rGt (jJr jJf (jJa (tVar 0) (jJa (tC (.int 3)) tNil))) (tC (.int 0))))) (tAsg (tOp rIxF (tVar 4) (tC (.int 0))) (jJl 5)) jJ5)
 (tSeq (tAsg (tBM "dict" jZz (tOp rIxF (tVar 1) (tC (.str (PySem.Str.ofString "many")))) (jJa (tVar 5) (jJa (tOp jKu (tC (.int 1)) (jJr jJf (jJa (tVar 0) (jJa (tC (.int 6)) tNil)))) tNil))) (jJl 6))
 (tSeq (tIfS (jJq (tOp rEqA (jJr jJf (jJa (tVar 0) (jJa (tC (.int 5)) tNil))) (tC (.int 0)))) (tAsg (jJr jJf (jJa (tVar 0) (jJa (tC (.int 7)) tNil))) (jJl 6)) jJ5)
 (tSeq (tAsg (jJr jJf (jJa (tVar 0) (jJa (tCB rMax (jJa (tC (.int 1)) (jJa (tOp jKu (tVar 6) (tCB jQt (jJa (tOp rEqA (jJr jJf (jJa (tVar 0) (jJa (tC (.int 6)) tNil))) (tC (.int 0))) tNil))) tNil))) tNil))) (jJl 7))
 (tSeq (tIfS (tAnd (jJq (tOp jZy (tVar 4) (tC .non))) (tAnd (jJq (tOp rEqA (tVar 5) (tOp rIxF (tVar 4) (tC (.int 0))))) (jJq (tOp rGt (jJr jJf (jJa (tVar 0) (jJa (tC (.int 4)) tNil))) (tC (.int 0)))))) (tAsg (tOp rIxF (tVar 4) (tC (.int 1))) (jJl 7)) jJ5)
 (tRet (tTup (jJa (tVar 3) (jJa (tVar 7) (jJa (tVar 5) (jJa (tVar 6) tNil))))))))))))))))
noncomputable def jUx:TS3:=(tSeq (tIfS (tAnd (jJq (tOp jZy (tVar 4) (tC .non))) (tAnd (jJq (tOp rEqA (tVar 5) (tOp rIxF (tVar 4) (tC (.int 0))))) (jJq (tOp rGt (jJr jJf (jJa (tVar 0) (jJa (tC (.int 4)) tNil))) (tC (.int 0)))))) (tAsg (tOp rIxF (tVar 4) (tC (.int 1))) (jJl 7)) jJ5)
 (tRet (tTup (jJa (tVar 3) (jJa (tVar 7) (jJa (tVar 5) (jJa (tVar 6) tNil)))))))
noncomputable def jY0:TS3:=(tSeq (tAsg (tBM "dict" jZz (tOp rIxF (tVar 1) (tC (.str (PySem.Str.ofString "many")))) (jJa (tVar 5) (jJa (tOp jKu (tC (.int 1)) (jJr jJf (jJa (tVar 0) (jJa (tC (.int 6)) tNil)))) tNil))) (jJl 6))
 (tSeq (tIfS (jJq (tOp rEqA (jJr jJf (jJa (tVar 0) (jJa (tC (.int 5)) tNil))) (tC (.int 0)))) (tAsg (jJr jJf (jJa (tVar 0) (jJa (tC (.int 7)) tNil))) (jJl 6)) jJ5)
 (tSeq (tAsg (jJr jJf (jJa (tVar 0) (jJa (tCB rMax (jJa (tC (.int 1)) (jJa (tOp jKu (tVar 6) (tCB jQt (jJa (tOp rEqA (jJr jJf (jJa (tVar 0) (jJa (tC (.int 6)) tNil))) (tC (.int 0))) tNil))) tNil))) tNil))) (jJl 7))
 (tSeq (tIfS (tAnd (jJq (tOp jZy (tVar 4) (tC .non))) (tAnd (jJq (tOp rEqA (tVar 5) (tOp rIxF (tVar 4) (tC (.int 0))))) (jJq (tOp rGt (jJr jJf (jJa (tVar 0) (jJa (tC (.int 4)) tNil))) (tC (.int 0)))))) (tAsg (tOp rIxF (tVar 4) (tC (.int 1))) (jJl 7)) jJ5)
 (tRet (tTup (jJa (tVar 3) (jJa (tVar 7) (jJa (tVar 5) (jJa (tVar 6) tNil))))))))))
noncomputable def jY1:TS3:=(tSeq (tAsg (tBM "dict" jY4 (tOp rIxF (tVar 1) (tC (.str (PySem.Str.ofString "ends")))) (jJa (tTup (jJa (tVar 2) (jJa (tVar 3) tNil))) tNil)) (jJl 4))
 (tSeq (tAsg (jJr jKy (jJa (jJr jJf (jJa (tVar 0) (jJa (tOp rIxF (tLst (jJa (tC (.int 4)) (jJa (tC (.int 12)) tNil))) (tCB jQt (jJa (tOp rEqA (jJr jJf (jJa (tVar 0) (jJa (tC (.int 3)) tNil))) (tC (.int 0))) tNil))) tNil))) tNil)) (jJl 5))
 (tSeq (tIfS (tAnd (jJq (tOp jZy (tVar 4) (tC .non))) (jJq (tOp rGt (jJr jJf (jJa (tVar 0) (jJa (tC (.int 3)) tNil))) (tC (.int 0))))) (tAsg (tOp rIxF (tVar 4) (tC (.int 0))) (jJl 5)) jJ5)
 (tSeq (tAsg (tBM "dict" jZz (tOp rIxF (tVar 1) (tC (.str (PySem.Str.ofString "many")))) (jJa (tVar 5) (jJa (tOp jKu (tC (.int 1)) (jJr jJf (jJa (tVar 0) (jJa (tC (.int 6)) tNil)))) tNil))) (jJl 6))
 (tSeq (tIfS (jJq (tOp rEqA (jJr jJf (jJa (tVar 0) (jJa (tC (.int 5)) tNil))) (tC (.int 0)))) (tAsg (jJr jJf (jJa (tVar 0) (jJa (tC (.int 7)) tNil))) (jJl 6)) jJ5)
 (tSeq (tAsg (jJr jJf (jJa (tVar 0) (jJa (tCB rMax (jJa (tC (.int 1)) (jJa (tOp jKu (tVar 6) (tCB jQt (jJa (tOp rEqA (jJr jJf (jJa (tVar 0) (jJa (tC (.int 6)) tNil))) (tC (.int 0))) tNil))) tNil))) tNil))) (jJl 7))
 (tSeq (tIfS (tAnd (jJq (tOp jZy (tVar 4) (tC .non))) (tAnd (jJq (tOp rEqA (tVar 5) (tOp rIxF (tVar 4) (tC (.int 0))))) (jJq (tOp rGt (jJr jJf (jJa (tVar 0) (jJa (tC (.int 4)) tNil))) (tC (.int 0)))))) (tAsg (tOp rIxF (tVar 4) (tC (.int 1))) (jJl 7)) jJ5)
 (tRet (tTup (jJa (tVar 3) (jJa (tVar 7) (jJa (tVar 5) (jJa (tVar 6) tNil)))))))))))))
theorem kJ8:jY0=(tSeq (tAsg (tBM "dict" jZz (tOp rIxF (tVar 1) (tC (.str (PySem.Str.ofString "many")))) (jJa (tVar 5) (jJa (tOp jKu (tC (.int 1)) (jJr jJf (jJa (tVar 0) (jJa (tC (.int 6)) tNil)))) tNil))) (jJl 6)) (tSeq (tIfS (jJq (tOp rEqA (jJr jJf (jJa (tVar 0) (jJa (tC (.int 5)) tNil))) (tC (.int 0)))) (tAsg (jJr jJf (jJa (tVar 0) (jJa (tC (.int 7)) tNil))) (jJl 6)) jJ5) (tSeq (tAsg (jJr jJf (jJa (tVar 0) (jJa (tCB rMax (jJa (tC (.int 1)) (jJa (tOp jKu (tVar 6) (tCB jQt (jJa (tOp rEqA (jJr jJf (jJa (tVar 0) (jJa (tC (.int 6)) tNil))) (tC (.int 0))) tNil))) tNil))) tNil))) (jJl 7)) jUx))):=rfl
theorem kJ9:jY1=(tSeq (tAsg (tBM "dict" jY4 (tOp rIxF (tVar 1) (tC (.str (PySem.Str.ofString "ends")))) (jJa (tTup (jJa (tVar 2) (jJa (tVar 3) tNil))) tNil)) (jJl 4)) (tSeq (tAsg (jJr jKy (jJa (jJr jJf (jJa (tVar 0) (jJa (tOp rIxF (tLst (jJa (tC (.int 4)) (jJa (tC (.int 12)) tNil))) (tCB jQt (jJa (tOp rEqA (jJr jJf (jJa (tVar 0) (jJa (tC (.int 3)) tNil))) (tC (.int 0))) tNil))) tNil))) tNil)) (jJl 5)) (tSeq (tIfS (tAnd (jJq (tOp jZy (tVar 4) (tC .non))) (jJq (tOp rGt (jJr jJf (jJa (tVar 0) (jJa (tC (.int 3)) tNil))) (tC (.int 0))))) (tAsg (tOp rIxF (tVar 4) (tC (.int 0))) (jJl 5)) jJ5) jY0))):=rfl
theorem jZx:jXk=(tSeq (tAsg (tOp rIxF (tVar 1) (tC (.str (PySem.Str.ofString "at")))) (jJl 2)) (tSeq (tAsg (jJr jJf (jJa (tVar 0) (jJa (tCB rMax (jJa (tC (.int 1)) (jJa (tOp jKu (tOp rIxF (tOp rIxF (tVar 1) (tC (.str (PySem.Str.ofString "many")))) (tVar 2)) (tCB jQt (jJa (tOp rEqA (jJr jJf (jJa (tVar 0) (jJa (tC (.int 6)) tNil))) (tC (.int 0))) tNil))) tNil))) tNil))) (jJl 3)) (tSeq (tIfS (jJq (tOp rEqA (jJr jJf (jJa (tVar 0) (jJa (tC (.int 16)) tNil))) (tC (.int 0)))) (tAsg (tUn rNeg (tC (.int 1))) (jJl 3)) jJ5) jY1))):=rfl
noncomputable def qQc (bx:Addr)(N:Nat)(G:Gp)(Q:VK3):Prop:=∀(di:Int) (cm r k:Nat) G',r<24->k<12->jK2 G' bx N->Keep bx G G'->Q (.tup [.int di,.int (cm:Nat),.str (mkS r),.int (k:Nat)]) G'
theorem jVp (h:jK2 G b i)(hij:i<=j):jK2 G b j:=let ⟨x,y,z,a,b,c,d,e,f⟩:=h;⟨x,y,z,a,b,c,d,e,by omega⟩
theorem eqMk (h:r<24)(h':r'<24):eqG G (.str (mkS r)) (.str (mkS r'))=some (decide (r=r')):=by
 show (if eqOk (.str (mkS r))=true/\eqOk (.str (mkS r'))=true then some (eqT (.str (mkS r)) (.str (mkS r'))) else none)=_
 rw[if_pos ⟨okOf (d:=0) (jXq h) (by decide),okOf (d:=0) (jXq h') (by decide)⟩,kXk h h']
variable {bx:Addr}
theorem step9 {m:Addr}{k cm:Nat}{di:Int}{o:Option (Nat×Nat)}{v2:Option T}(hb:jK2 G bx j)(hj:j<2^30)(hr:r<24)(hk:k<12)(ho:∀q,o=some q->q.1<24)(kk:qQc bx (j+1) G Q):
  jUx {nx:=fun _ G'=>Q .non G',rt:=Q} [some (.ref bx),some (.ref m),v2,some (.int di),some (optM o),some (.str (mkS r)),some (.int (k:Nat)),some (.int (cm:Nat))] G:=by
 have hs:=sz
 cases o with
 | none=>
  wp_walk using 1,jUx,optM
  exact⟨by omega,kk di cm r k G hr hk (jVp hb (by omega)) (Keep.refl _ _)⟩
 | some q=>
  wp_walk using 1,jUx,optM,encM,rEqA
  refine⟨_,eqMk hr (ho q rfl),?_⟩
  split
  ·refine⟨bx,4,j,rfl,hb,by omega,by decide,by decide,fun i G1 h0 h1 hb1 k1=>⟨i,rfl,?_⟩⟩
   split
   ·exact⟨by omega,kk di q.2 r k G1 hr hk hb1 k1⟩
   ·exact⟨by omega,kk di cm r k G1 hr hk hb1 k1⟩
  ·exact⟨by omega,kk di cm r k G hr hk (jVp hb (by omega)) (Keep.refl _ _)⟩
theorem MdAt.keep (h:MdAt G m o n e s evs)(hb:jK2 G bx j)(ho:o≠bx)(k:Keep bx G G'):MdAt G' m o n e s evs:=
 h.sub fun x u z q=>k x u (by
  obtain⟨a1,a2,a3,a4,_⟩:=hb
  rcases q with rfl | rfl | rfl | rfl
  ·rintro rfl;rw[h.obj] at a4;cases a4
  ·exact ho
  ·rintro rfl;rw[h.man] at a4;cases a4
  ·rintro rfl;rw[h.ens] at a4;cases a4) z
theorem qJv {di:Int}{kn:Option (Nat×Nat)}{v2 v6 v7:Option T}(hb:jK2 G bx j)(h:MdAt G m o n e s evs)(ok:s.Ok)(hob:o≠bx)(hj:j<2^29)(hr:r<24)(hkn:∀q,kn=some q->q.1<24)(kk:qQc bx (j+6) G Q):
  jY0 {nx:=fun _ G'=>Q .non G',rt:=Q} [some (.ref bx),some (.ref m),v2,some (.int di),some (optM kn),some (.str (mkS r)),v6,v7] G:=by
 have hs:=sz
 wp_walk using 1,kJ8,jZz,rEqA,mMan h.obj
 have e0:∀ {G:Gp} {i:Nat},eqG G (.int (i:Nat)) (.int 0)=some (decide (i=0)):=fun {G i}=>jXz (G:=G) (a:=i) (c:=0)
 have tail:∀(k:Nat) (G1:Gp) (j1:Nat),k<12->jK2 G1 bx j1->j1<=j+3->Keep bx G G1->jJf [T.ref bx,T.int 6] G1 fun x_4 G1=>∃b,eqG G1 x_4 (T.int 0)=some b/\∃r_2,L3.addR G1 (T.int (k:Nat)) (T.int (if b=true then 1 else 0))=some r_2/\fin3 r_2 G1 fun x_5 G1=>∃x_6,x_5=T.int x_6/\
   jJf [T.ref bx,T.int (if x_6>1 then x_6 else 1)] G1 fun x_7 G1=>jUx {nx:=fun x G'=>Q T.non G',rt:=Q} [some (T.ref bx),some (T.ref m),v2,some (T.int di),some (optM kn),some (T.str (mkS r)),some (T.int (k:Nat)),some x_7] G1:=by
  intro k G1 j1 hk hb1 hj1 k1
  refine⟨bx,6,j1,rfl,hb1,by omega,by decide,by decide,fun i G2 h0 h1 hb2 k2=> ?_⟩
  obtain⟨i,rfl⟩:∃n:Nat,i=n:=⟨i.toNat,by omega⟩
  refine⟨_,e0,_,rfl,?_⟩
  show ∃x_6,_/\_
  refine⟨_,rfl,bx,_,j1+1,rfl,hb2,by omega,?_,?_,fun c G3 c0 c1 hb3 k3=> ?_⟩
  ·split<;>omega
  ·split<;>(split<;>omega)
  ·obtain⟨c,rfl⟩:∃n:Nat,c=n:=⟨c.toNat,by omega⟩
   exact step9 hb3 (by omega) hr hk hkn fun di cm r k G' q1 q2 q3 q4=>kk di cm r k G' q1 q2 (jVp q3 (by omega)) (((k1.trans k2).trans k3).trans q4)
 refine⟨by simp[tyT,h.man],bx,6,j,rfl,hb,by omega,by decide,by decide,fun i G1 h0 h1 hb1 k1=> ?_⟩
 obtain⟨i,rfl⟩:∃n:Nat,i=n:=⟨i.toNat,by omega⟩
 have m1:=h.keep hb hob k1
 refine⟨_,rfl,?_⟩
 show ∃x_1,_/\_
 refine⟨_,m1.man,_,rfl,bx,5,j+1,rfl,hb1,by omega,by decide,by decide,fun i5 G2 h50 h51 hb2 k2=> ?_⟩
 obtain⟨i5,rfl⟩:∃n:Nat,i5=n:=⟨i5.toNat,by omega⟩
 refine⟨_,e0,?_⟩
 split
 ·refine⟨bx,7,j+2,rfl,hb2,by omega,by decide,by decide,fun k G3 h70 h71 hb3 k3=> ?_⟩
  obtain⟨k,rfl⟩:∃n:Nat,k=n:=⟨k.toNat,by omega⟩
  exact tail k G3 (j+3) (by omega) hb3 (by omega) ((k1.trans k2).trans k3)
 ·have hg:(valT (manL s.ms s.ct) (Sum.inr (mkS r))).getD (.int (1+(i:Nat)))= .int (((s.ct[s.ms.idxOf r]?).getD (1+i):Nat):Int):=by
   have:=kQe ok (r:=r) (k:=1+i) hr
   rw[<-this];push_cast;rfl
  rw[show T.int (1+((i:Nat):Int))=T.int (1+(i:Nat)) from rfl,hg]
  refine tail _ G2 (j+2) ?_ hb2 (by omega) (k1.trans k2)
  cases e:s.ct[s.ms.idxOf r]? with
  | none=>show 1+i<12;omega
  | some c=>exact ok.dg c (List.mem_of_getElem? e)
theorem step3 {di:Int}{v4 v5 v6 v7:Option T}(hb:jK2 G bx j)(h:MdAt G m o n e s evs)(ok:s.Ok)(hob:o≠bx)(hj:j<2^28)(kk:qQc bx (j+9) G Q):
  jY1 {nx:=fun _ G'=>Q .non G',rt:=Q} [some (.ref bx),some (.ref m),some (.str (mkS s.at_)),some (.int di),v4,v5,v6,v7] G:=by
 have hs:=sz
 have hat:s.at_<24:=ok.lt _ ok.mem
 obtain⟨kn,hkn,hkn2⟩:=h.ok.at_int h.ens hat di
 have hkn3:∀q,kn=some q->q.1<24:=fun q z=>let ⟨p,e⟩:=hkn2 q z;ok.lt _ (ok.e1 _ _ e)
 have e0:∀ {G:Gp} {i:Nat},eqG G (.int (i:Nat)) (.int 0)=some (decide (i=0)):=fun {G i}=>jXz (G:=G) (a:=i) (c:=0)
 have ek:(Option.map encM kn).getD .non=optM kn:=by cases kn<;>rfl
 wp_walk using 1,kJ9,jY4,rEqA,mEnd h.obj,hkn,ek
 refine⟨by simp[tyT,h.ens],by omega,by omega,fun p hp=> ?_⟩
 have hpb:bx≠p:=by obtain⟨_,_,_,e1,_⟩:=hb;exact jJo e1 hp
 have hb0:jK2 (gup G p (.lst [.int 4,.int 12])) bx j:=let ⟨x,y,z,e,q⟩:=hb;⟨x,y,z,by rw[jJi hpb];exact e,q⟩
 have k0:Keep bx G (gup G p (.lst [.int 4,.int 12])):= .new hp
 refine⟨bx,3,j,rfl,hb0,by omega,by decide,by decide,fun i G1 h0 h1 hb1 k1=> ?_⟩
 obtain⟨i,rfl⟩:∃n:Nat,i=n:=⟨i.toNat,by omega⟩
 refine⟨_,e0,?_⟩
 have hp1:G1 p=some (.lst [.int 4,.int 12]):=k1 _ _ hpb.symm jJg
 obtain⟨w,hw,hw1,hw2⟩:∃w:Nat,ixR G1 (.ref p) (.int (if decide (i=0)=true then 1 else 0))=some (.int (w:Nat))/\1<=w/\w<=12:=by
  split
  ·exact⟨12,by rw[jUo hp1];rfl,by omega,by omega⟩
  ·exact⟨4,by rw[jUo hp1];rfl,by omega,by omega⟩
 refine⟨_,hw,bx,w,j+1,rfl,hb1,by omega,by omega,by omega,fun r G2 h2 h3 hb2 k2=> ?_⟩
 obtain⟨r,rfl⟩:∃n:Nat,r=n:=⟨r.toNat,by omega⟩
 have hr:r<24:=by omega
 refine⟨r,rfl,hr,fun G3 s3=> ?_⟩
 have k3:Keep bx G2 G3:=fun c u _ z=>s3 c u z
 have hb3:jK2 G3 bx (j+1+1):=let ⟨x,y,z,e,q⟩:=hb2;⟨x,y,z,s3 _ _ e,q⟩
 have kA:=((k0.trans k1).trans k2).trans k3
 have mA:=h.keep hb hob kA
 cases kn with
 | none=>
  wp_walk using 1,optM
  exact qJv (kn:=none) hb3 mA ok hob (by omega) hr hkn3 fun di cm r k G' q1 q2 q3 q4=>kk di cm r k G' q1 q2 (jVp q3 (by omega)) (kA.trans q4)
 | some q=>
  wp_walk using 1,optM,encM
  refine⟨bx,3,j+2,rfl,hb3,by omega,by decide,by decide,fun i4 G4 h4 h5 hb4 k4=>⟨i4,rfl,?_⟩⟩
  split
  ·exact qJv (kn:=some q) hb4 (mA.keep hb3 hob k4) ok hob (by omega) (hkn3 q rfl) hkn3 fun di cm r k G' q1 q2 q3 q4=>kk di cm r k G' q1 q2 (jVp q3 (by omega)) ((kA.trans k4).trans q4)
  ·exact qJv (kn:=some q) hb4 (mA.keep hb3 hob k4) ok hob (by omega) hr hkn3 fun di cm r k G' q1 q2 q3 q4=>kk di cm r k G' q1 q2 (jVp q3 (by omega)) ((kA.trans k4).trans q4)
noncomputable def jXd:Sp3:=fun xs G Q=>∃(bx m o n e:Addr) (s:CS) (evs:Kvs) (j:Nat),xs=[.ref bx,.ref m]/\jK2 G bx j/\MdAt G m o n e s evs/\s.Ok/\o≠bx/\j<2^27/\∀(di:Int) (cm r k:Nat) G',r<24->k<12->jK2 G' bx (j+12)->Keep bx G G'->Q (.tup [.int di,.int (cm:Nat),.str (mkS r),.int (k:Nat)]) G'
theorem kJ5:RdOk jXd jXk kZ6:=by
 intro xs G Q h_;apply xe8 h_;clear h_;intro bx m o n e s evs j h_;apply ae6 h_;clear h_;intro hb h ok hob hj kk
 show jXk _ [some (.ref bx),some (.ref m),none,none,none,none,none,none] G
 have hs:=sz
 have hpl:s.pl<s.ct.length:=by rw[ok.len];exact ok.pl
 wp_walk using 1,jZx,rEqA,mMan h.obj,mAt h.obj,kQj h.man ok.nd ok.lt ok.at_ (List.getElem?_eq_getElem hpl)
 have e0:∀ {G:Gp} {i:Nat},eqG G (.int (i:Nat)) (.int 0)=some (decide (i=0)):=fun {G i}=>jXz (G:=G) (a:=i) (c:=0)
 have hdg:s.ct[s.pl]<12:=ok.dg _ (List.getElem_mem hpl)
 refine⟨bx,6,j,rfl,hb,by omega,by decide,by decide,fun i G1 h0 h1 hb1 k1=> ?_⟩
 obtain⟨i,rfl⟩:∃n:Nat,i=n:=⟨i.toNat,by omega⟩
 refine⟨_,e0,bx,_,j+1,rfl,hb1,by omega,?_,?_,fun d G2 h2 h3 hb2 k2=> ?_⟩
 ·split<;>omega
 ·split<;>(split<;>omega)
 ·refine⟨bx,16,j+2,rfl,hb2,by omega,by decide,by decide,fun i5 G3 h4 h5 hb3 k3=> ?_⟩
  obtain⟨i5,rfl⟩:∃n:Nat,i5=n:=⟨i5.toNat,by omega⟩
  have kA:=(k1.trans k2).trans k3
  refine⟨_,e0,?_⟩
  split
  ·exact step3 hb3 (h.keep hb hob kA) ok hob (by omega) fun di cm r k G' q1 q2 q3 q4=>kk di cm r k G' q1 q2 (jVp q3 (by omega)) (kA.trans q4)
  ·exact step3 hb3 (h.keep hb hob kA) ok hob (by omega) fun di cm r k G' q1 q2 q3 q4=>kk di cm r k G' q1 q2 (jVp q3 (by omega)) (kA.trans q4)
structure CZx (G:Gp) (a m:Addr) (N:Nat) (bx:Addr) (b c d o n e:Addr) (s:CS) (kvs evs:Kvs):Prop where
 ch:ChAt G a b c d s kvs
 md:MdAt G m o n e s evs
 ok:s.Ok
 n:s.n<=N
 bo:b≠o
 co:c≠o
 de:d≠e
 bb:b≠bx
 cb:c≠bx
 ob:o≠bx
def CZ (G:Gp)(a m:Addr)(N:Nat)(bx:Addr):Prop:=∃b c d o n e s kvs evs,CZx G a m N bx b c d o n e s kvs evs
section
variable {N:Nat}{d:Addr}
theorem CZx.sub (h:CZx G a m N bx b c d o n e s kvs evs)(k:Sub G G'):CZx G' a m N bx b c d o n e s kvs evs:=
 {h with ch:=h.ch.sub fun x u z _=>k x u z,md:=h.md.sub fun x u z _=>k x u z}
theorem CZ.sub (h:CZ G a m N bx)(k:Sub G G'):CZ G' a m N bx:=
 let ⟨b,c,d,o,n,e,s,kvs,evs,h⟩:=h;⟨b,c,d,o,n,e,s,kvs,evs,h.sub k⟩
theorem CZ.box (h:CZ G a m N bx)(k:Sub G G')(hp:G p=none):CZ G' a m N p:=by
 obtain⟨b,c,d,o,n,e,s,kvs,evs,h⟩:=h
 exact⟨b,c,d,o,n,e,s,kvs,evs,{h.sub k with bb:=(fun z=>by rw[<-z,h.ch.mks] at hp;cases hp),cb:=(fun z=>by rw[<-z,h.ch.ct] at hp;cases hp),ob:=(fun z=>by rw[<-z,h.md.ord] at hp;cases hp)}⟩
theorem CZ.mono {N':Nat}(h:CZ G a m N bx)(hn:N<=N'):CZ G a m N' bx:=by
 obtain⟨b,c,d,o,n,e,s,kvs,evs,h⟩:=h
 exact⟨b,c,d,o,n,e,s,kvs,evs,{h with n:=Nat.le_trans h.n hn}⟩
theorem kX6 {x:Addr}{u:GO}(hb:jK2 G bx j)(hx:G x=some u)(hu:∀t,u≠ .lst t):x≠bx:=by
 rintro rfl
 obtain⟨p,q,t,e,_⟩:=hb
 rw[hx] at e
 exact hu _ (Option.some.inj e)
theorem CZx.keep (h:CZx G a m N bx b c d o n e s kvs evs)(hb:jK2 G bx j)(k:Keep bx G G'):CZx G' a m N bx b c d o n e s kvs evs:=
 {h with
  ch:=h.ch.sub fun x u z q=>k x u (by
   rcases q with rfl | rfl | rfl | rfl
   ·exact kX6 hb h.ch.obj fun t q=>by cases q
   ·exact h.bb
   ·exact h.cb
   ·exact kX6 hb h.ch.ld fun t q=>by cases q) z
  md:=h.md.keep hb h.ob k}
end
theorem qJp (hc:cn∈exN):∃w,kJy (some cn)= .str w/\eqOk (.str w)=true:=by
 unfold exN at hc
 simp only[List.mem_cons,List.not_mem_nil,or_false] at hc
 rcases hc with rfl | rfl | rfl | rfl
 ·exact⟨_,tl0,by decide +kernel⟩
 ·exact⟨_,tlw tl1,by decide +kernel⟩
 ·exact⟨_,tlw tl2,by decide +kernel⟩
 ·exact⟨_,tlw tl3,by decide +kernel⟩
theorem eqStr {w:Str}(h:eqOk (.str w)=true):eqG G (.str w) (.str w)=some true:=by
 show (if eqOk (.str w)=true/\eqOk (.str w)=true then some (eqT (.str w) (.str w)) else none)=_
 rw[if_pos ⟨h,h⟩];simp[eqT]
def kU7:Sp3:=fun xs G Q=>∃ns:List Int,xs=[.scr (jU7 ns)]/\ns.length<=63/\∀G',Q (.bl true) G'
def N_law:List Str:=["_law_script","_law_box_here","_law_doors","_law_chart","_law_model","_law_k","_law_turn","_law_door","_law_came","_law_mark_here","_law_due_here"]
noncomputable def kK8:TS3:=
 (tSeq (tAsg (jJr jV0 (jJa (tVar 0) (jJa (tC (.int 0)) tNil))) (jJl 1))
 (tSeq (tAsg (jJr jJf (jJa (tVar 1) (jJa (tC (.int 7)) tNil))) (jJl 2))
 (tSeq (tAsg (qJr "Chart" jQe (jJa (jJr jKy (jJa (tC (.int 1)) tNil)) (jJa (tVar 2) tNil))) (jJl 3))
 (tSeq (tAsg (jJr jVd (jJa (jJr jKy (jJa (tC (.int 1)) tNil)) (jJa (tVar 2) tNil))) (jJl 4))
 (tSeq (tFor (jVm (jJa (tCB rMax (jJa (tC (.int 8)) (jJa (tCB rLen (jJa (tSl rSlF (tVar 0) (kYn (tC (.int 1))) (kYn (tC (.int 63)))) tNil)) tNil))) tNil)) (jJl 5) (tSeq (tAsg (jJr jV0 (jJa (tVar 0) (jJa (tOp jKu (tVar 5) (tC (.int 1))) tNil))) (jJl 1))
 (tFor (jVm (jJa (tC (.int 2)) tNil)) (jJl 6) (tSeq (tAsg (jJr jXd (jJa (tVar 1) (jJa (tVar 4) tNil))) (gTup 4 (jQ3 (jJl 7) (jQ3 (jJl 8) (jQ3 (jJl 9) (jQ3 (jJl 2) gNil))))))
 (tSeq (tAsg (jJr jYw (jJa (tVar 4) (jJa (tVar 7) (jJa (tVar 8) (jJa (tVar 9) (jJa (tVar 2) tNil)))))) (jJl 10))
 (tSeq (tIfS (jJq (tOp rNeA (jJr jUu (jJa (tVar 3) (jJa (tVar 7) (jJa (tVar 8) (jJa (tVar 9) (jJa (tVar 2) tNil)))))) (tVar 10))) (tRet (tC (.bl false))) jJ5)
 (tSeq (tIfS (jJq (tOp rIsN (tVar 10) (tC .non))) (jXb (jJr jQw (jJa (tVar 4) (jJa (tVar 7) (jJa (tVar 8) (jJa (tVar 9) (jJa (tVar 2) tNil))))))) jJ5)
 (tIfS (tNot (jJq (jJr jKa (jJa (tVar 3) (jJa (tVar 4) tNil))))) (tRet (tC (.bl false))) jJ5))))))))
 (tRet (tC (.bl true))))))))
theorem kYw:RdOk kU7 kK8 N_law:=by
 intro xs G Q h_;apply xe1 h_;clear h_;intro ns h_;apply ae2 h_;clear h_;intro hns kk
 show kK8 _ [some (.scr (jU7 ns)),none,none,none,none,none,none,none,none,none,none] G
 have hs:=sz
 wp_walk using 1,kK8,qJr
 refine⟨ns,0,rfl,hns,by omega,by omega,fun bx G1 hp1 hb1 s1=>⟨bx,7,0,rfl,hb1,by omega,by omega,by omega,fun ki G3 hr0 hr1 hb3 k3=> ?_⟩⟩
 obtain⟨k0,rfl⟩:∃n:Nat,ki=n:=⟨ki.toNat,by omega⟩
 refine⟨1,rfl,by omega,fun G4 s4 a ha=> ?_⟩
 refine⟨a,1,k0,rfl,jJg,fun b c d G5 ch5 hb hc hd eq5=>⟨rfl,?_⟩⟩
 obtain⟨hba,hb4⟩:=jJt hb
 obtain⟨hca,hc4⟩:=jJt hc
 obtain⟨hda,hd4⟩:=jJt hd
 have s5:Sub G4 G5:=fun x u e=>by
  rw[eq5 x (jJo e ha) (jJo e hb4) (jJo e hc4) (jJo e hd4),jJi (jJo e ha)];exact e
 refine⟨1,rfl,by omega,fun G6 s6=>⟨1,k0,rfl,fun m o n e G7 md7 hm ho hn he s7=> ?_⟩⟩
 have ch6:ChAt G6 a b c d (beg 1 k0) []:=ch5.sub fun x u z _=>s6 x u z
 have ch7:ChAt G7 a b c d (beg 1 k0) []:=ch6.sub fun x u z _=>s7 x u z
 have b6:jK2 G6 bx (0+1):=let ⟨x,y,z,e,q⟩:=hb3;⟨x,y,z,s6 _ _ (s5 _ _ (s4 _ _ e)),q⟩
 have bx6:∃u,G6 bx=some u:=let ⟨_,_,_,e,_⟩:=b6;⟨_,e⟩
 have bx4:∃u,G4 bx=some u:=let ⟨_,_,_,e,_⟩:=hb3;⟨_,s4 _ _ e⟩
 have cm8:CZ G7 a m 0 bx:=by
  obtain⟨u6,e6⟩:=bx6
  obtain⟨u4,e4⟩:=bx4
  have hok:(beg 1 k0).Ok:=⟨by simp[beg],by simp[beg],rfl,by simp[beg];omega,by simp[beg],(fun p q z=>by cases z),(fun p q z=>by cases z)⟩
  exact⟨b,c,d,o,n,e,beg 1 k0,[],[],⟨ch7,md7,hok,Nat.le_refl _,jJo ch6.mks ho,jJo ch6.ct ho,jJo ch6.ld he,(fun z=>by rw[z,e4] at hb4;cases hb4),(fun z=>by rw[z,e4] at hc4;cases hc4),(fun z=>by rw[z,e6] at ho;cases ho)⟩⟩
 have right:∀ {G8:Gp} {N8:Nat} {bx8:Addr} {K:VK3},CZ G8 a m N8 bx8->(∀G9,Sub G8 G9->K (.bl true) G9)->jKa [.ref a,.ref m] G8 K:=by
  rintro G8 N8 bx8 K ⟨b,c,d,o,n,e,s,kvs,evs,h⟩ hK
  exact⟨a,b,c,d,m,o,n,e,s,kvs,evs,rfl,h.ch,h.md,h.ok,hK⟩
 wp_walk using 1,jVc,jVm,tSl,rSlF,slR,kYn
 intro q9 hq9
 have cm9:CZ (gup G7 q9 (.lst (cutT (jU7 ns) (some 1) (some 63)))) a m 0 bx:=cm8.sub (.new hq9)
 have hcut:(cutT (jU7 ns) (some 1) (some 63)).length<=63:=by
  unfold cutT
  rw[List.length_take,List.length_drop,List.length_map];omega
 generalize hG9:gup G7 q9 (.lst (cutT (jU7 ns) (some 1) (some 63)))=G9 at cm9 ⊢
 obtain⟨cN,hcN,hcN2⟩:∃cN:Nat,(if ((cutT (jU7 ns) (some 1) (some 63)).length:Int)>8 then ((cutT (jU7 ns) (some 1) (some 63)).length:Int) else 8)=(cN:Int)/\cN<=63:=by
  split
  ·exact⟨_,rfl,hcut⟩
  ·exact⟨8,rfl,by omega⟩
 rw[hcN]
 refine⟨by omega,by omega,?_⟩
 rw[show ((cN:Nat):Int).toNat=cN by omega,jQ4]
 let J1:Nat->St3->Gp->Prop:=fun i τ G'=>∃(bx:Addr) (v2 v5 v6 v7 v8 v9 v10:Option T),τ=[some (.scr (jU7 ns)),some (.ref bx),v2,some (.ref a),some (.ref m),v5,v6,v7,v8,v9,v10]/\CZ G' a m (2*i) bx
 refine⟨J1,?_,?_,?_,?_⟩
 ·exact⟨bx,_,_,_,_,_,_,_,rfl,cm9⟩
 ·intros;trivial
 ·intro i y τ G10 hy h_;apply xe8 h_;clear h_;intro bx v2 v5 v6 v7 v8 v9 v10 cm
  obtain⟨i',hi',rfl⟩:=jQ2 hy
  obtain⟨hi,rfl⟩:=jQg hi'
  wp_walk using 1,jVc,jVm
  refine⟨ns,(i:Int)+1,rfl,hns,by omega,by omega,fun bx G11 hbx hb11 s11=> ?_⟩
  have cm11:=cm.box s11 hbx
  refine⟨by omega,by omega,?_⟩
  rw[show ((2:Int)).toNat=2 from rfl,jQ4]
  let J2:Nat->St3->Gp->Prop:=fun j τ G'=>∃(v2 v6 v7 v8 v9 v10:Option T),τ=[some (.scr (jU7 ns)),some (.ref bx),v2,some (.ref a),some (.ref m),some (.int (i:Nat)),v6,v7,v8,v9,v10]/\CZ G' a m (2*i+j) bx/\jK2 G' bx (12*j)
  refine⟨J2,?_,?_,?_,?_⟩
  ·exact⟨_,_,_,_,_,_,rfl,cm11,hb11⟩
  ·intros;trivial
  ·intro j y τ G12 hy h_;apply xe6 h_;clear h_;intro v2 v6 v7 v8 v9 v10 h_;apply ae2 h_;clear h_;intro cm hb12
   obtain⟨j',hj',rfl⟩:=jQ2 hy
   obtain⟨hj,rfl⟩:=jQg hj'
   obtain⟨b,c,d,o,n,e,s,kvs,evs,h⟩:=cm
   wp_walk using 1,rNeA
   refine⟨bx,m,o,n,e,s,evs,12*j,rfl,hb12,h.md,h.ok,h.ob,by omega,fun di cm r k G13 hr hk hb13 k13=> ?_⟩
   have h13:=h.keep hb12 k13
   have hpl:s.pl<s.ct.length:=by rw[h.ok.len];exact h.ok.pl
   have hk0:=List.getElem?_eq_getElem hpl
   wp_walk using 1,tSeq
   have hn13:=h13.n
   refine⟨m,o,n,e,s,evs,di,cm,r,k,_,rfl,h13.md,h13.ok,hr,hk0,?_⟩
   refine⟨a,b,c,d,s,kvs,di,cm,r,k,_,rfl,h13.ch,h13.ok,by omega,hr,hk,hk0,fun cn hcn G14 s14=> ?_,fun dr hdi hdue d' kvs' G15 hd' ch15 k15=> ?_⟩
   ·rw[hcn]
    obtain⟨w,hw,hw2⟩:=qJp (kXq hcn)
    rw[hw]
    refine⟨true,eqStr hw2,?_⟩
    (rw[if_neg (by simp),if_neg (by simp)])
    have cm14:CZ G14 a m (2*i+j) bx:=⟨b,c,d,o,n,e,s,kvs,evs,h13.sub s14⟩
    refine right cm14 fun G15 s15=>⟨true,rfl,?_⟩
    rw[if_neg (by simp)]
    exact⟨_,_,_,_,_,_,rfl,(cm14.sub s15).mono (by omega),let ⟨x,y,z,e,q⟩:=hb13;⟨x,y,z,s15 _ _ (s14 _ _ e),by omega⟩⟩
   ·subst hdi
    rw[hdue,show kJy none= .non from rfl]
    refine⟨true,rfl,?_⟩
    rw[if_neg (by simp),if_pos (by rfl)]
    have ne1:∀x u,G13 x=some u->(∀t,u≠ .lst t)->(∀t,u≠ .ins "Chart" t)->x∉[a,b,c]:=fun x u hx h1 h2 z=>by
     simp only[List.mem_cons,List.not_mem_nil,or_false] at z
     rcases z with rfl | rfl | rfl
     ·rw[h13.ch.obj] at hx;exact h2 _ (Option.some.inj hx).symm
     ·rw[h13.ch.mks] at hx;exact h1 _ (Option.some.inj hx).symm
     ·rw[h13.ch.ct] at hx;exact h1 _ (Option.some.inj hx).symm
    have md15:MdAt G15 m o n e s evs:=h13.md.sub fun x u hx q=>k15 x u (by
     rcases q with rfl | rfl | rfl | rfl
     ·exact ne1 _ _ h13.md.obj (fun t q=>by cases q) fun t q=>by cases q
     ·intro z
      simp only[List.mem_cons,List.not_mem_nil,or_false] at z
      rcases z with rfl | rfl | rfl
      ·have:=h13.ch.obj.symm.trans h13.md.ord;cases this
      ·exact h13.bo rfl
      ·exact h13.co rfl
     ·exact ne1 _ _ h13.md.man (fun t q=>by cases q) fun t q=>by cases q
     ·exact ne1 _ _ h13.md.ens (fun t q=>by cases q) fun t q=>by cases q) hx
    have hb15:jK2 G15 bx (12*j+12):=by
     obtain⟨x,y,z,e1,q⟩:=id hb13
     refine⟨x,y,z,k15 _ _ (fun z=> ?_) e1,q⟩
     simp only[List.mem_cons,List.not_mem_nil,or_false] at z
     rcases z with rfl | rfl | rfl
     ·exact kX6 hb13 h13.ch.obj (fun t q=>by cases q) rfl
     ·exact h13.bb rfl
     ·exact h13.cb rfl
    refine⟨m,o,n,e,s,evs,dr,cm,r,k,rfl,md15,h13.ok,by omega,hr,fun evs' G17 md17 k17=> ?_⟩
    have de':d'≠e:=fun z=>by rw[z,h13.md.ens] at hd';cases hd'
    have ne2:∀x,(∀t,G15 x≠some (.dck t))->(∀t,G15 x≠some (.dct t)\/x≠e)->x≠o->x∉[m,o,n,e]:=fun x h1 h2 h3 z=>by
     simp only[List.mem_cons,List.not_mem_nil,or_false] at z
     rcases z with rfl | rfl | rfl | rfl
     ·exact h1 _ md15.obj
     ·exact h3 rfl
     ·exact h1 _ md15.man
     ·exact (h2 _).elim (fun q=>q md15.ens) fun q=>q rfl
    have ch17:ChAt G17 a b c d' (goC s dr cm r k) kvs':=ch15.sub fun x u hx q=>k17 x u (by
     rcases q with rfl | rfl | rfl | rfl
     ·exact ne2 _ (fun t q=>by rw[ch15.obj] at q;cases q) (fun t=> .inl fun q=>by rw[ch15.obj] at q;cases q) fun q=>by have:=ch15.obj.symm.trans (q▸md15.ord);cases this
     ·exact ne2 _ (fun t q=>by rw[ch15.mks] at q;cases q) (fun t=> .inl fun q=>by rw[ch15.mks] at q;cases q) h13.bo
     ·exact ne2 _ (fun t q=>by rw[ch15.ct] at q;cases q) (fun t=> .inl fun q=>by rw[ch15.ct] at q;cases q) h13.co
     ·exact ne2 _ (fun t q=>by rw[ch15.ld] at q;cases q) (fun t=> .inr de') fun q=>by have:=ch15.ld.symm.trans (q▸md15.ord);cases this) hx
    have hb17:jK2 G17 bx (12*j+12):=by
     obtain⟨x,y,z,e1,q⟩:=id hb15
     exact⟨x,y,z,k17 _ _ (ne2 _ (fun t q=>by rw[e1] at q;cases q) (fun t=> .inl fun q=>by rw[e1] at q;cases q) h13.ob.symm) e1,q⟩
    have cm17:CZ G17 a m (2*i+(j+1)) bx:=⟨b,c,d',o,n,e,_,kvs',evs',⟨ch17,md17,h13.ok.go hr hk,by show s.n+1<=_;omega,h13.bo,h13.co,de',h13.bb,h13.cb,h13.ob⟩⟩
    refine right cm17 fun G18 s18=>⟨true,rfl,?_⟩
    rw[if_neg (by simp)]
    exact⟨_,_,_,_,_,_,rfl,cm17.sub s18,let ⟨x,y,z,e,q⟩:=hb17;⟨x,y,z,s18 _ _ e,by omega⟩⟩
  ·intro τ G12 h_;apply xe6 h_;clear h_;intro v2 v6 v7 v8 v9 v10 h_;apply ae2 h_;clear h_;intro cm hb12
   exact⟨bx,_,_,_,_,_,_,_,rfl,cm⟩
 ·intro τ G10 h_;apply xe8 h_;clear h_;intro bx v2 v5 v6 v7 v8 v9 v10 cm
  wp_walk using 1,tSeq
  exact kk _
end W
namespace W
open PySem PySem.Spec PyProof.Rows L2 L3
theorem ln1 {α:Type}{us:List α}{C:List α->Prop}(h:us.length=1)(k:∀a0,C [a0]):C us:=by
 obtain⟨a0,us,rfl⟩:=List.exists_cons_of_length_eq_add_one h
 replace h:=Nat.succ.inj h
 cases List.length_eq_zero_iff.mp h
 exact k a0
theorem ln2 {α:Type}{us:List α}{C:List α->Prop}(h:us.length=2)(k:∀a0 a1,C [a0,a1]):C us:=by
 obtain⟨a0,us,rfl⟩:=List.exists_cons_of_length_eq_add_one h
 replace h:=Nat.succ.inj h
 obtain⟨a1,us,rfl⟩:=List.exists_cons_of_length_eq_add_one h
 replace h:=Nat.succ.inj h
 cases List.length_eq_zero_iff.mp h
 exact k a0 a1
theorem ln3 {α:Type}{us:List α}{C:List α->Prop}(h:us.length=3)(k:∀a0 a1 a2,C [a0,a1,a2]):C us:=by
 obtain⟨a0,us,rfl⟩:=List.exists_cons_of_length_eq_add_one h
 replace h:=Nat.succ.inj h
 obtain⟨a1,us,rfl⟩:=List.exists_cons_of_length_eq_add_one h
 replace h:=Nat.succ.inj h
 obtain⟨a2,us,rfl⟩:=List.exists_cons_of_length_eq_add_one h
 replace h:=Nat.succ.inj h
 cases List.length_eq_zero_iff.mp h
 exact k a0 a1 a2
theorem ln4 {α:Type}{us:List α}{C:List α->Prop}(h:us.length=4)(k:∀a0 a1 a2 a3,C [a0,a1,a2,a3]):C us:=by
 obtain⟨a0,us,rfl⟩:=List.exists_cons_of_length_eq_add_one h
 replace h:=Nat.succ.inj h
 obtain⟨a1,us,rfl⟩:=List.exists_cons_of_length_eq_add_one h
 replace h:=Nat.succ.inj h
 obtain⟨a2,us,rfl⟩:=List.exists_cons_of_length_eq_add_one h
 replace h:=Nat.succ.inj h
 obtain⟨a3,us,rfl⟩:=List.exists_cons_of_length_eq_add_one h
 replace h:=Nat.succ.inj h
 cases List.length_eq_zero_iff.mp h
 exact k a0 a1 a2 a3
theorem ln5 {α:Type}{us:List α}{C:List α->Prop}(h:us.length=5)(k:∀a0 a1 a2 a3 a4,C [a0,a1,a2,a3,a4]):C us:=by
 obtain⟨a0,us,rfl⟩:=List.exists_cons_of_length_eq_add_one h
 replace h:=Nat.succ.inj h
 obtain⟨a1,us,rfl⟩:=List.exists_cons_of_length_eq_add_one h
 replace h:=Nat.succ.inj h
 obtain⟨a2,us,rfl⟩:=List.exists_cons_of_length_eq_add_one h
 replace h:=Nat.succ.inj h
 obtain⟨a3,us,rfl⟩:=List.exists_cons_of_length_eq_add_one h
 replace h:=Nat.succ.inj h
 obtain⟨a4,us,rfl⟩:=List.exists_cons_of_length_eq_add_one h
 replace h:=Nat.succ.inj h
 cases List.length_eq_zero_iff.mp h
 exact k a0 a1 a2 a3 a4
def top (i:Nat):Stmt:=PySem.Challenge.pw_stonewalker_k57_steps_refused.main.body.getD i (.Pass ⟨0,0,0,0⟩)
theorem ext_Clash:ExT (inClass (top 7) 0) "WebError" "self" "words" "why":=⟨⟨rfl,rfl,rfl,by decide +kernel,rfl,by decide +kernel,by decide +kernel⟩,⟨_,_,_,_,_,_,_,_,_,_,rfl,fun _=>⟨_,rfl⟩⟩,rfl,rfl,rfl,rfl,⟨by decide,by decide⟩,⟨by decide,by decide⟩,⟨by decide,by decide⟩,by decide,fun _ _ _ _ _ _ _ us hl=>by apply ln3 hl;intros;rfl⟩
def FnAt (K:PySem.W.Frag)(mg:Str->Option Value)(x:Str)(i:Nat):Prop:=∃f fd,mg x=some (.ref f)/\Fun K x x (top i) f fd
def MeF (K:PySem.W.Frag)(C:Addr)(m q:Str)(st:Stmt):Prop:=∃f fd,Meth K C m f/\Fun K m q st f fd
def MkF (K:PySem.W.Frag)(C:Addr)(q:Str)(st:Stmt):Prop:=∃f fd,Mk K C f/\Fun K "__init__" q st f fd
structure ClT_Chart (K:PySem.W.Frag) (mg:Str->Option Value) (C:Addr):Prop where
 cn:CN K "Chart" C
 cl:Cls K C
 mg:mg "Chart"=some (.ref C)
 a_counts:NoAttr K C "counts"
 a_leads:NoAttr K C "leads"
 a_marks:NoAttr K C "marks"
 a_place:NoAttr K C "place"
 i_:MkF K C "Chart.__init__" (inClass (top 15) 0)
 m_number_of:MeF K C "number_of" "Chart.number_of" (inClass (top 15) 1)
 m_refuse_clash:MeF K C "refuse_clash" "Chart.refuse_clash" (inClass (top 15) 3)
 m_went:MeF K C "went" "Chart.went" (inClass (top 15) 4)
 m_here:MeF K C "here" "Chart.here" (inClass (top 15) 5)
 m_rooms:MeF K C "rooms" "Chart.rooms" (inClass (top 15) 6)
 m_sketch:MeF K C "sketch" "Chart.sketch" (inClass (top 15) 7)
 m_open_doors:MeF K C "open_doors" "Chart.open_doors" (inClass (top 15) 8)
structure Txt (K:PySem.W.Frag) (mg:Str->Option Value):Prop where
 n_abs:mg "abs"=none
 n_dict:mg "dict"=none
 n_divmod:mg "divmod"=none
 n_enumerate:mg "enumerate"=none
 n_int:mg "int"=none
 n_isinstance:mg "isinstance"=none
 n_len:mg "len"=none
 n_max:mg "max"=none
 n_range:mg "range"=none
 n_tuple:mg "tuple"=none
 n_zip:mg "zip"=none
 t_WebError:∀cn,cn∈(["NoDoor","Clash:doors","Clash:end","Clash:taken"]:List Str)->ExSub K mg cn "WebError" true
 i_BadRow_NoMark_NoStone_NotWhole_NoWeb_TooMany:∀cn b,(cn,b)∈([("NoDoor",false),("Clash:doors",false),("Clash:end",false),("Clash:taken",false)]:List (Str×Bool))->IsX K mg ["BadRow","NoMark","NoStone","NotWhole","NoWeb","TooMany"] cn b
 v_TooMany:∃v,ClsV mg "TooMany" v/\Cl1 v
 v_NoWeb:∃v,ClsV mg "NoWeb" v/\Cl1 v
 v_NotWhole:∃v,ClsV mg "NotWhole" v/\Cl1 v
 v_NoStone:∃v,ClsV mg "NoStone" v/\Cl1 v
 v_NoMark:∃v,ClsV mg "NoMark" v/\Cl1 v
 v_BadRow:∃v,ClsV mg "BadRow" v/\Cl1 v
 i_ValueError:∀cn b,(cn,b)∈([("NoDoor",true),("Clash:doors",true),("Clash:end",true),("Clash:taken",true)]:List (Str×Bool))->IsX K mg ["ValueError"] cn b
 v_ValueError:∃v,ClsV mg "ValueError" v/\Cl1 v
 i_NoDoor:∀cn b,(cn,b)∈([("NoDoor",true),("Clash:doors",false),("Clash:end",false),("Clash:taken",false)]:List (Str×Bool))->IsX K mg ["NoDoor"] cn b
 v_NoDoor:∃v,ClsV mg "NoDoor" v/\Cl1 v
 i_Clash:∀cn b,(cn,b)∈([("NoDoor",false),("Clash:doors",true),("Clash:end",true),("Clash:taken",true)]:List (Str×Bool))->IsX K mg ["Clash"] cn b
 v_Clash:∃v,ClsV mg "Clash" v/\Cl1 v
 y_Clash:ExWhy K "Clash"
 w_Clash:∀(P:Program) (w:World) (base:Heap) (k:Nat),ExI P w K mg base (k+1) "Clash"
 x_NoDoor:ExC K mg "NoDoor"
 k_Chart:∃C,ClT_Chart K mg C
 f_tied:FnAt K mg "tied" 12
 f_sketched:FnAt K mg "sketched" 13
 f_l_box:FnAt K mg "_law_box" 17
 f_l_take:FnAt K mg "_law_take" 18
 f_l_mark:FnAt K mg "_law_mark" 19
 f_l_begun:FnAt K mg "_law_begun" 20
 f_l_stepped:FnAt K mg "_law_stepped" 21
 f_l_sketch_due:FnAt K mg "_law_sketch_due" 22
 f_l_chart_right:FnAt K mg "_law_chart_right" 23
 f_l_due:FnAt K mg "_law_due" 24
 f_l_told:FnAt K mg "_law_told" 25
 f_l_step:FnAt K mg "_law_step" 26
 f_law:FnAt K mg "law" 27
variable {w:World}{K:PySem.W.Frag}{mg:Str->Option Value}
variable {P:Program}{base:Heap}
variable {x:Str}{i:Nat}{N ps:List Str}{sp:Sp3}
theorem cal3 {k:Nat}{t:TS3}(F:FnAt K mg x i)(h:∀xs G Q,sp xs G Q->t {nx:=fun _ G'=>Q .non G',rt:=Q} (jK3 N xs) G)(d:∀(f:Addr) (cdv:Value) (A:Around) (outer:List Env) (s:Shared) (H:Hp) (E:XK),Room k (A.deeper (envOfC x (jJd (top i)) s.heap.objs.size f cdv))->(A.deeper (envOfC x (jJd (top i)) s.heap.objs.size f cdv)).units+20<cLine->N.Nodup->PSs3 (cxOf CX0 P w K mg base N x (jJd (top i)) f cdv A outer s H E).nox (jJx (top i)) t)(S:FnScope N ps (jJd (top i)):=by exact⟨rfl,rfl,rfl,by decide +kernel,rfl,by decide +kernel,by decide +kernel⟩)(b:∀(kV doc pm:Value) (an:Option Addr) (cdv ct:Value) (us:List Value),us.length=ps.length->bindArgs (PySem.W.fnOf x x (jKp (top i)) (jJx (top i)) (jJd (top i)) .none kV doc pm an cdv ct) ⟨us,[]⟩=pure (ps.zip us):=by (intro _ _ _ _ _ _ us hl;first | (apply ln1 hl;intros;rfl) | (apply ln2 hl;intros;rfl) | (apply ln3 hl;intros;rfl) | (apply ln4 hl;intros;rfl) | (apply ln5 hl;intros;rfl)))(m:Mono sp:=by (intro xs G Q Q' hq;(repeat' (first | (refine Exists.imp fun _=> ?_) | (refine And.imp_right ?_)));intro k;intros;apply hq;apply k<;>assumption))(n:∀xs G Q,sp xs G Q->xs.length=ps.length:=by (intro xs G Q h;repeat (first | exact (congrArg List.length h.1).trans rfl | obtain⟨_,h⟩:=h))):Cal P w K mg base (k+1) x ps sp:=by
 obtain⟨f,fd,a,F⟩:=F
 exact⟨⟨f,fd,fn3 F S fun cdv A outer s H E hr=>⟨t,d f cdv A outer s H E hr (kV9 hr) S.nd,h⟩,a,F.kp,F.binds b⟩,m,n⟩
theorem jJ0 (T:Txt K mg):ObF K "Chart" "counts":=let ⟨C,h⟩:=T.k_Chart;⟨C,h.cn,h.cl,h.a_counts⟩
theorem jJ8 (T:Txt K mg):ObF K "Chart" "leads":=let ⟨C,h⟩:=T.k_Chart;⟨C,h.cn,h.cl,h.a_leads⟩
theorem jJz (T:Txt K mg):ObF K "Chart" "marks":=let ⟨C,h⟩:=T.k_Chart;⟨C,h.cn,h.cl,h.a_marks⟩
theorem jKk (T:Txt K mg):ObF K "Chart" "place":=let ⟨C,h⟩:=T.k_Chart;⟨C,h.cn,h.cl,h.a_place⟩
variable {cn m q:Str}{st:Stmt}
theorem kX4 {k:Nat}{t:TS3}(F:∃C,CN K cn C/\Cls K C/\MeF K C m q st)(h:∀xs G Q,sp xs G Q->t {nx:=fun _ G'=>Q .non G',rt:=Q} (jK3 N xs) G)(d:∀(f:Addr) (cdv:Value) (A:Around) (outer:List Env) (s:Shared) (H:Hp) (E:XK),Room k (A.deeper (envOfC q (jJd st) s.heap.objs.size f cdv))->(A.deeper (envOfC q (jJd st) s.heap.objs.size f cdv)).units+20<cLine->N.Nodup->PSs3 (cxOf CX0 P w K mg base N q (jJd st) f cdv A outer s H E).nox (jJx st) t)(S:FnScope N ps (jJd st):=by exact⟨rfl,rfl,rfl,by decide +kernel,rfl,by decide +kernel,by decide +kernel⟩)(b:∀(kV doc pm:Value) (an:Option Addr) (cdv ct:Value) (us:List Value),us.length=ps.length->bindArgs (PySem.W.fnOf m q (jKp st) (jJx st) (jJd st) .none kV doc pm an cdv ct) ⟨us,[]⟩=pure (ps.zip us):=by (intro _ _ _ _ _ _ us hl;first | (apply ln1 hl;intros;rfl) | (apply ln2 hl;intros;rfl) | (apply ln3 hl;intros;rfl) | (apply ln4 hl;intros;rfl) | (apply ln5 hl;intros;rfl)))(mo:Mono sp:=by (intro xs G Q Q' hq;(repeat' (first | (refine Exists.imp fun _=> ?_) | (refine And.imp_right ?_)));intro k;intros;apply hq;apply k<;>assumption))(n:∀xs G Q,sp xs G Q->xs.length=ps.length:=by (intro xs G Q h;repeat (first | exact (congrArg List.length h.1).trans rfl | obtain⟨_,h⟩:=h))):CalM P w K mg base (k+1) cn m ps sp:=by
 obtain⟨C,hC,hc,f,fd,hm,F⟩:=F
 exact⟨⟨C,f,fd,hC,hc,hm,fn3 F S fun cdv A outer s H E hr=>⟨t,d f cdv A outer s H E hr (kV9 hr) S.nd,h⟩,F.binds b⟩,mo,n⟩
theorem calC3 {k:Nat}{t:TS3}(F:∃C,CN K cn C/\mg cn=some (.ref C)/\MkF K C q st)(h:∀xs G Q,sp xs G Q->t {nx:=fun _ G'=>Q .non G',rt:=Q} (jK3 N xs) G)(d:∀(f:Addr) (cdv:Value) (A:Around) (outer:List Env) (s:Shared) (H:Hp) (E:XK),Room k (A.deeper (envOfC q (jJd st) s.heap.objs.size f cdv))->(A.deeper (envOfC q (jJd st) s.heap.objs.size f cdv)).units+20<cLine->N.Nodup->PSs3 (cxOf CX0 P w K mg base N q (jJd st) f cdv A outer s H E).nox (jJx st) t)(S:FnScope N ps (jJd st):=by exact⟨rfl,rfl,rfl,by decide +kernel,rfl,by decide +kernel,by decide +kernel⟩)(b:∀(kV doc pm:Value) (an:Option Addr) (cdv ct:Value) (us:List Value),us.length=ps.length->bindArgs (PySem.W.fnOf "__init__" q (jKp st) (jJx st) (jJd st) .none kV doc pm an cdv ct) ⟨us,[]⟩=pure (ps.zip us):=by (intro _ _ _ _ _ _ us hl;first | (apply ln1 hl;intros;rfl) | (apply ln2 hl;intros;rfl) | (apply ln3 hl;intros;rfl) | (apply ln4 hl;intros;rfl) | (apply ln5 hl;intros;rfl)))(mo:Mono sp:=by (intro xs G Q Q' hq;(repeat' (first | (refine Exists.imp fun _=> ?_) | (refine And.imp_right ?_)));intro k;intros;apply hq;apply k<;>assumption))(n:∀xs G Q,sp xs G Q->xs.length=ps.length:=by (intro xs G Q h;repeat (first | exact (congrArg List.length h.1).trans rfl | obtain⟨_,h⟩:=h))):CalC P w K mg base (k+1) cn ps sp:=by
 obtain⟨C,hC,hc,f,fd,hm,F⟩:=F
 exact⟨⟨C,f,fd,hC,hc,hm,fn3 F S fun cdv A outer s H E hr=>⟨t,d f cdv A outer s H E hr (kV9 hr) S.nd,h⟩,F.binds b⟩,mo,n⟩
theorem qJk {k:Nat}{sp:SpX}{t:XK3->TS3}(F:∃C,CN K cn C/\Cls K C/\MeF K C m q st)(h:∀xs G Q R,sp xs G Q R->t R {nx:=fun _ G'=>Q .non G',rt:=Q} (jK3 N xs) G)(d:∀(f:Addr) (cdv:Value) (A:Around) (outer:List Env) (s:Shared) (H:Hp) (E:XK) (R:XK3),Room k (A.deeper (envOfC q (jJd st) s.heap.objs.size f cdv))->(A.deeper (envOfC q (jJd st) s.heap.objs.size f cdv)).units+20<cLine->N.Nodup->XR (cxOf (CXX P w) P w K mg base N q (jJd st) f cdv A outer s H E) R->PSs3 (cxOf (CXX P w) P w K mg base N q (jJd st) f cdv A outer s H E) (jJx st) (t R))(mo:kYc sp)(S:FnScope N ps (jJd st):=by exact⟨rfl,rfl,rfl,by decide +kernel,rfl,by decide +kernel,by decide +kernel⟩)(b:∀(kV doc pm:Value) (an:Option Addr) (cdv ct:Value) (us:List Value),us.length=ps.length->bindArgs (PySem.W.fnOf m q (jKp st) (jJx st) (jJd st) .none kV doc pm an cdv ct) ⟨us,[]⟩=pure (ps.zip us):=by (intro _ _ _ _ _ _ us hl;first | (apply ln1 hl;intros;rfl) | (apply ln2 hl;intros;rfl) | (apply ln3 hl;intros;rfl) | (apply ln4 hl;intros;rfl) | (apply ln5 hl;intros;rfl)))(n:∀xs G Q R,sp xs G Q R->xs.length=ps.length:=by (intro xs G Q R h;repeat (first | exact (congrArg List.length h.1).trans rfl | obtain⟨_,h⟩:=h))):CalMX P w K mg base (k+1) cn m ps sp:=by
 obtain⟨C,hC,hc,f,fd,hm,F⟩:=F
 exact⟨⟨C,f,fd,hC,hc,hm,fnX F S fun cdv A outer s H E R hr hx=>⟨t R,d f cdv A outer s H E R hr (kV9 hr) S.nd hx,fun xs G Q=>h xs G Q R⟩,F.binds b⟩,mo,n⟩
theorem jY7 (T:Txt K mg):CalC P w K mg base 1 "Chart" ["self","mark","doors"] jQe:=
 calC3 (let ⟨C,h⟩:=T.k_Chart;⟨C,h.cn,h.mg,h.i_⟩) jXg fun _ _ _ _ _ _ _ hr hu nd=>
  (jJe (kQ5 (jJz T) (jJc 0) (jX2 (jJb (jJc 1) jJh)))
   (jJe (kQ5 (jJ0 T) (jJc 0) (jX2 (jJb (jJc 2) jJh)))
   (jJe (kQ5 (jJ8 T) (jJc 0) e_dct)
   (jJm (kQ5 (jKk T) (jJc 0) jJj)))))
theorem jU1 (T:Txt K mg):CalM P w K mg base 1 "Chart" "number_of" ["self","mark"] jKi:=
 kX4 (let ⟨C,h⟩:=T.k_Chart;⟨C,h.cn,h.cl,h.m_number_of⟩) jUc fun _ _ _ _ _ _ _ hr hu nd=>
  (jJm (jKn (kKr (jKm (o_inFu hu) (jJc 1) (jQb (jJz T) (jJc 0)) (jJp _)) (e_bm PySem.F.plainAttrs_list PySem.F.slot_list_index PySem.F.type_list_index kVu (jQb (jJz T) (jJc 0)) (jJb (jJc 1) jJh)) (jK1 kX5 (by rfl) T.n_len PySem.boot_len (jJb (jQb (jJz T) (jJc 0)) jJh)))))
theorem jQ1 (T:Txt K mg):CalMX P w K mg base 3 "Chart" "refuse_clash" ["self","start","end","doors"] jJy:=
 qJk (let ⟨C,h⟩:=T.k_Chart;⟨C,h.cn,h.cl,h.m_refuse_clash⟩) jQi (mo:=jQq) fun _ _ _ _ _ _ _ R hr hu nd hx=>
  (jJe (s_if (PW3.pt (kYi (jKm o_lt (e_ix (ix_F hu) (jJc 2) jJj (fun _ _=>rfl)) (jK1 kX5 (by rfl) T.n_len PySem.boot_len (jJb (jQb (jJ0 T) (jJc 0)) jJh)) (jJp _)) (kUu (jKm (jY9 hr.units) (e_ix (ix_F hu) (jQb (jJ0 T) (jJc 0)) (e_ix (ix_F hu) (jJc 2) jJj (fun _ _=>rfl)) (fun _ _=>rfl)) (jJc 3) (jJp _))))) (jJm (jYy (k:=1) hx (T.w_Clash _ _ _ 0) (hr.mono (by decide)) (jJb jJw (jJb jJw jJh)))) jJ9)
   (jJe (s_if (jKm (jY9 hr.units) (e_bm PySem.F.plainAttrs_dict PySem.F.slot_dict_get PySem.F.type_dict_get (kQf hu) (jQb (jJ8 T) (jJc 0)) (jJb (jJc 1) (jJb (jJc 2) jJh))) (jJc 2) (jJp _)) (jJm (jYy (k:=1) hx (T.w_Clash _ _ _ 0) (hr.mono (by decide)) (jJb jJw (jJb jJw jJh)))) jJ9)
   (jJm (s_if (jKm (jY9 hr.units) (e_bm PySem.F.plainAttrs_dict PySem.F.slot_dict_get PySem.F.type_dict_get (kQf hu) (jQb (jJ8 T) (jJc 0)) (jJb (jJc 2) (jJb (jJc 1) jJh))) (jJc 1) (jJp _)) (jJm (jYy (k:=1) hx (T.w_Clash _ _ _ 0) (hr.mono (by decide)) (jJb jJw (jJb jJw jJh)))) jJ9))))
theorem qJ9 (T:Txt K mg):Cal P w K mg base 1 "tied" ["leads","start","end"] jYv:=
 cal3 T.f_tied kVe fun _ _ _ _ _ _ _ hr hu nd=>
  (jJe (jKf (i:=3) nd (jKq qQa (by rfl) T.n_dict rfl (jJb (jJc 0) jJh)))
   (jJe (jYb (jJc 2) (jZd (jJc 3) (jJc 1) (s_F hu)))
   (jJe (jYb (jJc 1) (jZd (jJc 3) (jJc 2) (s_F hu)))
   (jJm (jKn (jJc 3))))))
theorem jY6 (T:Txt K mg):CalMX P w K mg base 4 "Chart" "went" ["self","door","came","mark","doors"] jKg:=
 qJk (let ⟨C,h⟩:=T.k_Chart;⟨C,h.cn,h.cl,h.m_went⟩) jXf (mo:=jXr) fun _ _ _ _ _ _ _ R hr hu nd hx=>
  (jJe (s_if (PW3.pt (w_or (kU1 (kJz (qKe hu) o_lt jJj (jJc 1) (e_ix (ix_F hu) (jQb (jJ0 T) (jJc 0)) (jQb (jKk T) (jJc 0)) (fun _ _=>rfl)))) (kYh (kU1 (kJz (qKe hu) o_lt jJj (jJc 2) (jJc 4)))))) (jJm (kYu hx T.x_NoDoor rfl (jJb jJw jJh))) jJ9)
   (jJe (jKf (i:=5) nd (jK9 (jJb (jQb (jKk T) (jJc 0)) (jJb (jJc 1) jJh))))
   (jJe (jKf (i:=6) nd (jK9 (jJb (e_meth (jU1 T) (hr.mono (by decide)) (jJc 0) (jJb (jJc 3) jJh)) (jJb (jJc 2) jJh))))
   (jJe (jUv (qK2 hx (jQ1 T) (hr.mono (by decide)) (jJc 0) (jJb (jJc 5) (jJb (jJc 6) (jJb (jJc 4) jJh)))))
   (jJe (s_if (jKm (jZ5 hu) (jJc 3) (jQb (jJz T) (jJc 0)) (jJp _)) (jJe (jUv (e_bm PySem.F.plainAttrs_list PySem.F.slot_list_append PySem.F.type_list_append jQ9 (jQb (jJz T) (jJc 0)) (jJb (jJc 3) jJh)))
   (jJm (jUv (e_bm PySem.F.plainAttrs_list PySem.F.slot_list_append PySem.F.type_list_append jQ9 (jQb (jJ0 T) (jJc 0)) (jJb (jJc 4) jJh))))) jJ9)
   (jJe (kQ5 (jJ8 T) (jJc 0) (jKo (qJ9 T) (hr.mono (by decide)) (jJb (jQb (jJ8 T) (jJc 0)) (jJb (jJc 5) (jJb (jJc 6) jJh)))))
   (jJm (kQ5 (jKk T) (jJc 0) (e_ix (ix_F hu) (jJc 6) jJj (fun _ _=>rfl))))))))))
theorem jY8 (T:Txt K mg):CalM P w K mg base 1 "Chart" "here" ["self"] jQf:=
 kX4 (let ⟨C,h⟩:=T.k_Chart;⟨C,h.cn,h.cl,h.m_here⟩) jXh fun _ _ _ _ _ _ _ hr hu nd=>
  (jJm (jKn (e_ix (ix_F hu) (jQb (jJz T) (jJc 0)) (jQb (jKk T) (jJc 0)) (fun _ _=>rfl))))
theorem jYd (T:Txt K mg):CalM P w K mg base 1 "Chart" "rooms" ["self"] jK6:=
 kX4 (let ⟨C,h⟩:=T.k_Chart;⟨C,h.cn,h.cl,h.m_rooms⟩) jVs fun _ _ _ _ _ _ _ hr hu nd=>
  (jJm (jKn (e_tzip rfl rfl T.n_tuple rfl T.n_zip rfl (jJb (jQb (jJz T) (jJc 0)) (jJb (jQb (jJ0 T) (jJc 0)) jJh)))))
theorem kKe (T:Txt K mg):Cal P w K mg base 1 "sketched" ["counts","leads"] jUi:=
 cal3 T.f_sketched jYz fun _ _ _ _ _ _ _ hr hu nd=>
  (jJe (jKf (i:=2) nd (jX2 jJh))
   (jJe (kQ4 PassesOwn.never rfl (i_enum rfl T.n_enumerate rfl (jJb (jJc 0) jJh)) (kXd rfl (jKv (jKd (i:=3) nd) (jKv (jKd (i:=4) nd) kJf))) (jJm (jUv (e_bm PySem.F.plainAttrs_list PySem.F.slot_list_append PySem.F.type_list_append jQ9 (jJc 2) (jJb (jKq jX6 (by rfl) T.n_tuple rfl (jJb (kJl (mask:=[false,false,false,false,false,true]) rfl ⟨rfl,rfl,rfl,rfl,rfl,rfl,rfl⟩ (jUa rfl T.n_range (jJb (jJc 4) jJh)) jUq (fun C fp s H=>(jKd (i:=5) nd)) (fun C fp s H=>kQl) (fun C fp s H=>(e_bm PySem.F.plainAttrs_dict PySem.F.slot_dict_get PySem.F.type_dict_get (kVv hu) (jJc 1) (jJb (jK9 (jJb (jJc 3) (jJb (jJc 5) jJh))) jJh)))) jJh)) jJh)))))
   (jJm (jKn (jKq jX6 (by rfl) T.n_tuple rfl (jJb (jJc 2) jJh))))))
theorem jQ0 (T:Txt K mg):CalM P w K mg base 2 "Chart" "sketch" ["self"] jKh:=
 kX4 (let ⟨C,h⟩:=T.k_Chart;⟨C,h.cn,h.cl,h.m_sketch⟩) jVf fun _ _ _ _ _ _ _ hr hu nd=>
  (jJm (jKn (jKo (kKe T) (hr.mono (by decide)) (jJb (jQb (jJ0 T) (jJc 0)) (jJb (jQb (jJ8 T) (jJc 0)) jJh)))))
theorem jUl (T:Txt K mg):CalM P w K mg base 3 "Chart" "open_doors" ["self"] jKb:=
 kX4 (let ⟨C,h⟩:=T.k_Chart;⟨C,h.cn,h.cl,h.m_open_doors⟩) jQy fun _ _ _ _ _ _ _ hr hu nd=>
  (jJe (jKf (i:=1) nd (jX2 jJh))
   (jJe (kQ4 PassesOwn.never rfl (i_enT rfl T.n_enumerate rfl (jJb (jX1 (jQ0 T) (hr.mono (by decide)) (jJc 0)) jJh)) (kXd rfl (jKv (jKd (i:=2) nd) (jKv (jKd (i:=3) nd) kJf))) (jJm (jUv (e_bm PySem.F.plainAttrs_list PySem.F.slot_list_extend PySem.F.type_list_extend kQg (jJc 1) (jJb (kJl (mask:=[false,false,false,false,true,true]) rfl ⟨rfl,rfl,rfl,rfl,rfl,rfl,rfl⟩ (i_enT rfl T.n_enumerate rfl (jJb (jJc 3) jJh)) (gk_tup (kXc jUq kKo (kXc jUq kKo gk_nil qJg) (qKw kKo qJg))) (fun C fp s H=>(kXd rfl (jKv (jKd (i:=4) nd) (jKv (jKd (i:=5) nd) kJf)))) (fun C fp s H=>(qJf (jKm kVn (jJc 5) jX0 (jJp _)))) (fun C fp s H=>(jK9 (jJb (jJc 2) (jJb (jJc 4) jJh))))) jJh)))))
   (jJm (jKn (jJc 1)))))
theorem kQc (T:Txt K mg):Cal P w K mg base 1 "_law_box" ["_law_script","_law_k"] jV0:=
 cal3 T.f_l_box kQ7 fun _ _ _ _ _ _ _ hr hu nd=>
  (jJe (jKf (i:=2) nd (e_ix (ix_F hu) (e_op o_addS (jJc 0) (e_op jU4 (jX2 (jJb jJj jJh)) (e_op o_addF (jJc 1) jJj))) (jJc 1) (fun _ _=>rfl)))
   (jJm (jKn (jX2 (jJb (e_op jU4 (jK1 c_abs (by rfl) T.n_abs rfl (jJb (jJc 2) jJh)) (jKq kZz (by rfl) T.n_int rfl (jJb (kUk o_ge (jK1 c_abs (by rfl) T.n_abs rfl (jJb (jJc 2) jJh)) (e_op o_pow jJj jJj) (jJp _)) jJh))) (jJb (e_op jYe (e_op jU4 (e_op o_addF (e_op o_addF (e_op jYe (jJc 2) jJj) (e_op jU4 jJj (jJc 1))) jJj) jJj) jJj) (jJb jJj jJh)))))))
theorem jJ1 (T:Txt K mg):Cal P w K mg base 1 "_law_take" ["_law_box_here","_law_many"] jJf:=
 cal3 T.f_l_take kJ4 fun _ _ _ _ _ _ _ hr hu nd=>
  (jJe (s_if (jKm o_gt (e_ix (ix_F hu) (jJc 0) jJj (fun _ _=>rfl)) jJj (jJp _)) (jJe (jYb (jK1 kZ0 (by rfl) T.n_divmod rfl (jJb (e_ix (ix_F hu) (jJc 0) jJj (fun _ _=>rfl)) (jJb (jJc 1) jJh))) (kXd rfl (jKv (jZd (jJc 0) jJj (s_F hu)) (jKv (jKd (i:=2) nd) kJf))))
   (jJm (jKn (jJc 2)))) jJ9)
   (jJe (jYb (e_op o_addF (e_ix (ix_F hu) (jJc 0) jJj (fun _ _=>rfl)) jJj) (jZd (jJc 0) jJj (s_F hu)))
   (jJe (jKf (i:=3) nd (e_op jYe (e_op jU4 (e_op o_addF (e_ix (ix_F hu) (jJc 0) jJj (fun _ _=>rfl)) (e_op jU4 jJj (e_ix (ix_F hu) (jJc 0) jJj (fun _ _=>rfl)))) (e_op o_addF jJj (e_ix (ix_F hu) (jJc 0) jJj (fun _ _=>rfl)))) jJj))
   (jJe (jYb (e_op jYe (e_op o_addF (e_op jU4 (jJc 3) (e_op o_addF (e_op jYe (jJc 3) jJj) jJj)) (e_ix (ix_F hu) (jJc 0) jJj (fun _ _=>rfl))) jJj) (jZd (jJc 0) jJj (s_F hu)))
   (jJm (jKn (e_op jYe (e_op o_fdiv (e_op jYe (e_op jU4 (e_ix (ix_F hu) (jJc 0) jJj (fun _ _=>rfl)) (e_op o_addF (e_op jYe (e_ix (ix_F hu) (jJc 0) jJj (fun _ _=>rfl)) jJj) jJj)) jJj) jJj) (jJc 1))))))))
theorem jXp (T:Txt K mg):Cal P w K mg base 1 "_law_mark" ["_law_room"] jKy:=
 cal3 T.f_l_mark kJ6 fun _ _ _ _ _ _ _ hr hu nd=>
  (jJe (jKf (i:=1) nd (e_ix ix_S jJw (e_op jYe (e_op o_addF (e_op jU4 (jJc 0) jJj) jJj) jJj) (fun _ _=>rfl)))
   (jJm (jKn (e_op o_mulS (jJc 1) (e_ix (ix_F hu) (jX2 (jJb jJj (jJb jJj (jJb jJj (jJb jJj (jJb jJj jJh)))))) (e_op jYe (jJc 0) jJj) (fun _ _=>rfl))))))
theorem kUa (T:Txt K mg):Cal P w K mg base 1 "_law_begun" ["_law_mark_here","_law_doors"] jVd:=
 cal3 T.f_l_begun jZv fun _ _ _ _ _ _ _ hr hu nd=>
  (jJm (jKn (qK3 jJw (jX2 (jJb (jJc 0) jJh)) jJw (qK4 (jJc 0) (jJc 1)) jJw e_dct jJw (jJc 0))))
theorem jZ3 (T:Txt K mg):Cal P w K mg base 1 "_law_stepped" ["_law_model","_law_door","_law_came","_law_mark_here","_law_doors"] jQw:=
 cal3 T.f_l_stepped jYc fun _ _ _ _ _ _ _ hr hu nd=>
  (jJe (s_if (jKm (jZ5 hu) (jJc 3) (e_ix (ix_F hu) (jJc 0) jJw (fun _ _=>rfl)) (jJp _)) (jJe (jUv (e_bm PySem.F.plainAttrs_list PySem.F.slot_list_append PySem.F.type_list_append jQ9 (e_ix (ix_F hu) (jJc 0) jJw (fun _ _=>rfl)) (jJb (jJc 3) jJh)))
   (jJm (jYb (jJc 4) (jZd (e_ix (ix_F hu) (jJc 0) jJw (fun _ _=>rfl)) (jJc 3) (s_F hu))))) jJ9)
   (jJe (jYb (jK9 (jJb (jJc 3) (jJb (jJc 2) jJh))) (jZd (e_ix (ix_F hu) (jJc 0) jJw (fun _ _=>rfl)) (jK9 (jJb (e_ix (ix_F hu) (jJc 0) jJw (fun _ _=>rfl)) (jJb (jJc 1) jJh))) (s_F hu)))
   (jJe (jYb (jK9 (jJb (e_ix (ix_F hu) (jJc 0) jJw (fun _ _=>rfl)) (jJb (jJc 1) jJh))) (jZd (e_ix (ix_F hu) (jJc 0) jJw (fun _ _=>rfl)) (jK9 (jJb (jJc 3) (jJb (jJc 2) jJh))) (s_F hu)))
   (jJm (jYb (jJc 3) (jZd (jJc 0) jJw (s_F hu)))))))
theorem jXo (T:Txt K mg):Cal P w K mg base 1 "_law_sketch_due" ["_law_model"] jKx:=
 cal3 T.f_l_sketch_due jVe fun _ _ _ _ _ _ _ hr hu nd=>
  (jJe (jKf (i:=1) nd (jX2 jJh))
   (jJe (kQ4 PassesOwn.never rfl (qKt (e_ix (ix_F hu) (jJc 0) jJw (fun _ _=>rfl))) (jKd (i:=2) nd) (jJe (s_comp (i:=3) (mask:=[false,false,false,false,true,false]) rfl nd ⟨rfl,rfl,rfl,rfl,rfl,rfl,rfl⟩ (jUa rfl T.n_range (jJb (e_ix (ix_F hu) (e_ix (ix_F hu) (jJc 0) jJw (fun _ _=>rfl)) (jJc 2) (fun _ _=>rfl)) jJh)) jUq (fun C fp s H=>(jKd (i:=4) nd)) (fun C fp s H=>kQl) (fun C fp s H=>(e_bm PySem.F.plainAttrs_dict PySem.F.slot_dict_get PySem.F.type_dict_get (kVv hu) (e_ix (ix_F hu) (jJc 0) jJw (fun _ _=>rfl)) (jJb (jK9 (jJb (jJc 2) (jJb (jJc 4) jJh))) jJh))))
   (jJm (jUv (e_bm PySem.F.plainAttrs_list PySem.F.slot_list_append PySem.F.type_list_append jQ9 (jJc 1) (jJb (jKq jX6 (by rfl) T.n_tuple rfl (jJb (kJl (mask:=[false,false,false,false,false,true]) rfl ⟨rfl,rfl,rfl,rfl,rfl,rfl,rfl⟩ (qKt (jJc 3)) jUq (fun C fp s H=>(jKd (i:=5) nd)) (fun C fp s H=>kQl) (fun C fp s H=>(kKr (jKm kVn (jJc 5) jX0 (jJp _)) jX0 (jK9 (jJb (e_bm PySem.F.plainAttrs_list PySem.F.slot_list_index PySem.F.type_list_index kVu (e_ix (ix_F hu) (jJc 0) jJw (fun _ _=>rfl)) (jJb (e_ix (ix_F hu) (jJc 5) jJj (fun _ _=>rfl)) jJh)) (jJb (e_ix (ix_F hu) (jJc 5) jJj (fun _ _=>rfl)) jJh)))))) jJh)) jJh))))))
   (jJm (jKn (jKq jX6 (by rfl) T.n_tuple rfl (jJb (jJc 1) jJh))))))
theorem jVw (T:Txt K mg):Cal P w K mg base 4 "_law_chart_right" ["_law_chart","_law_model"] jKa:=
 cal3 T.f_l_chart_right jUw fun _ _ _ _ _ _ _ hr hu nd=>
  (jJe (jKf (i:=2) nd (jKq jX6 (by rfl) T.n_tuple rfl (jJb (kJl (mask:=[false,false,false,false,false,false,true,false]) rfl ⟨rfl,rfl,rfl,rfl,rfl,rfl,rfl⟩ (qKt (e_ix (ix_F hu) (jJc 1) jJw (fun _ _=>rfl))) jUq (fun C fp s H=>(jKd (i:=6) nd)) (fun C fp s H=>kQl) (fun C fp s H=>(jK9 (jJb (jJc 6) (jJb (e_ix (ix_F hu) (e_ix (ix_F hu) (jJc 1) jJw (fun _ _=>rfl)) (jJc 6) (fun _ _=>rfl)) jJh))))) jJh)))
   (jJe (s_if (PW3.pt (w_or (jKm (jY9 hr.units) (jX1 (jY8 T) (hr.mono (by decide)) (jJc 0)) (e_ix (ix_F hu) (jJc 1) jJw (fun _ _=>rfl)) (jJp _)) (kYh (jKm (jY9 hr.units) (jX1 (jYd T) (hr.mono (by decide)) (jJc 0)) (jJc 2) (jJp _))))) (jJm (jKn e_bl)) jJ9)
   (jJe (jKf (i:=3) nd (jKo (jXo T) (hr.mono (by decide)) (jJb (jJc 1) jJh)))
   (jJe (jKf (i:=4) nd (jX2 jJh))
   (jJe (kQ4 PassesOwn.never rfl (jUa rfl T.n_range (jJb (jK1 kX5 (by rfl) T.n_len PySem.boot_len (jJb (jJc 3) jJh)) jJh)) (jKd (i:=5) nd) (jJm (jUv (e_bm PySem.F.plainAttrs_list PySem.F.slot_list_extend PySem.F.type_list_extend kQg (jJc 4) (jJb (kJl (mask:=[false,false,false,false,false,false,false,true]) rfl ⟨rfl,rfl,rfl,rfl,rfl,rfl,rfl⟩ (jUa rfl T.n_range (jJb (jK1 kX5 (by rfl) T.n_len PySem.boot_len (jJb (e_ix (ix_F hu) (jJc 3) (jJc 5) (fun _ _=>rfl)) jJh)) jJh)) jUq (fun C fp s H=>(jKd (i:=7) nd)) (fun C fp s H=>(qJf (jKm kVn (e_ix (ix_F hu) (e_ix (ix_F hu) (jJc 3) (jJc 5) (fun _ _=>rfl)) (jJc 7) (fun _ _=>rfl)) jX0 (jJp _)))) (fun C fp s H=>(jK9 (jJb (jJc 5) (jJb (jJc 7) jJh))))) jJh)))))
   (jJm (jKn (e_and (kUk (jZa hr.units) (jX1 (jQ0 T) (hr.mono (by decide)) (jJc 0)) (jJc 3) (jJp _)) (e_one (kUk (jZa hr.units) (jX1 (jUl T) (hr.mono (by decide)) (jJc 0)) (jJc 4) (jJp _)))))))))))
theorem kY8 (T:Txt K mg):Cal P w K mg base 1 "_law_due" ["_law_model","_law_door","_law_came","_law_mark_here","_law_doors"] jYw:=
 cal3 T.f_l_due kQ6 fun _ _ _ _ _ _ _ hr hu nd=>
  (jJe (s_if (PW3.pt (w_or (kU1 (kJz (qKe hu) o_lt jJj (jJc 1) (e_ix (ix_F hu) (e_ix (ix_F hu) (jJc 0) jJw (fun _ _=>rfl)) (e_ix (ix_F hu) (jJc 0) jJw (fun _ _=>rfl)) (fun _ _=>rfl)))) (kYh (jKm o_ge (jJc 2) (jJc 4) (jJp _))))) (jJm (jKn jJw)) jJ9)
   (jJe (s_if (jKm (jY9 hr.units) (e_bm PySem.F.plainAttrs_dict PySem.F.slot_dict_get PySem.F.type_dict_get qJe (e_ix (ix_F hu) (jJc 0) jJw (fun _ _=>rfl)) (jJb (jJc 3) (jJb (jJc 4) jJh))) (jJc 4) (jJp _)) (jJm (jKn jJw)) jJ9)
   (jJe (s_if (jKm (jY9 hr.units) (e_bm PySem.F.plainAttrs_dict PySem.F.slot_dict_get PySem.F.type_dict_get (kQf hu) (e_ix (ix_F hu) (jJc 0) jJw (fun _ _=>rfl)) (jJb (jK9 (jJb (e_ix (ix_F hu) (jJc 0) jJw (fun _ _=>rfl)) (jJb (jJc 1) jJh))) (jJb (jK9 (jJb (jJc 3) (jJb (jJc 2) jJh))) jJh))) (jK9 (jJb (jJc 3) (jJb (jJc 2) jJh))) (jJp _)) (jJm (jKn jJw)) jJ9)
   (jJe (s_if (jKm (jY9 hr.units) (e_bm PySem.F.plainAttrs_dict PySem.F.slot_dict_get PySem.F.type_dict_get (kQf hu) (e_ix (ix_F hu) (jJc 0) jJw (fun _ _=>rfl)) (jJb (jK9 (jJb (jJc 3) (jJb (jJc 2) jJh))) (jJb (jK9 (jJb (e_ix (ix_F hu) (jJc 0) jJw (fun _ _=>rfl)) (jJb (jJc 1) jJh))) jJh))) (jK9 (jJb (e_ix (ix_F hu) (jJc 0) jJw (fun _ _=>rfl)) (jJb (jJc 1) jJh))) (jJp _)) (jJm (jKn jJw)) jJ9)
   (jJm (jKn jX0))))))
theorem kVk (T:Txt K mg):Cal P w K mg base 5 "_law_told" ["_law_chart","_law_door","_law_came","_law_mark_here","_law_doors"] jUu:=
 cal3 T.f_l_told kJ3 (fun _ _ _ _ _ _ _ hr hu nd=>
  (jJe (jKf (i:=5) nd jX0)
   (jJe (s_try (i:=6) (cs:=["NoDoor","Clash:doors","Clash:end","Clash:taken"]) (fun _ _ h=>h) nd (qJt (qJu (qK0 (fun _ _ h=>h) (jY6 T) (hr.mono (by decide)) (jJc 0) (jJb (jJc 1) (jJb (jJc 2) (jJb (jJc 3) (jJb (jJc 4) jJh))))))) (fun a=>(jJm (jKf (i:=5) nd (jJc 6)))) T.t_WebError)
   (jJe (s_if (jKm kVn (jJc 5) jX0 (jJp _)) (jJm (jKn jX0)) jJ9)
   (jJe (s_if (PW3.pt (w_or (kYm (e_isiT (rel:=[("NoDoor",false),("Clash:doors",false),("Clash:end",false),("Clash:taken",false)]) T.i_BadRow_NoMark_NoStone_NotWhole_NoWeb_TooMany (NmL.cons T.v_BadRow (NmL.cons T.v_NoMark (NmL.cons T.v_NoStone (NmL.cons T.v_NotWhole (NmL.cons T.v_NoWeb (NmL.cons T.v_TooMany NmL.nil)))))) (by decide) (jJc 5) T.n_isinstance)) (kYh (kU1 (kYm (kQr (rel:=[("NoDoor",true),("Clash:doors",true),("Clash:end",true),("Clash:taken",true)]) T.i_ValueError T.v_ValueError (jJc 5) T.n_isinstance)))))) (jJm (jKn jJw)) jJ9)
   (jJe (s_if (jKm (jZa hr.units) (kQr (rel:=[("NoDoor",true),("Clash:doors",false),("Clash:end",false),("Clash:taken",false)]) T.i_NoDoor T.v_NoDoor (jJc 5) T.n_isinstance) (kQr (rel:=[("NoDoor",false),("Clash:doors",true),("Clash:end",true),("Clash:taken",true)]) T.i_Clash T.v_Clash (jJc 5) T.n_isinstance) (jJp _)) (jJm (jKn jJw)) jJ9)
   (jJm (jKn (kKr (kYm (kQr (rel:=[("NoDoor",false),("Clash:doors",true),("Clash:end",true),("Clash:taken",true)]) T.i_Clash T.v_Clash (jJc 5) T.n_isinstance)) (e_why T.y_Clash (jJc 5)) jJw))))))))) (m:=kKi)
theorem kVl (T:Txt K mg):Cal P w K mg base 2 "_law_step" ["_law_box_here","_law_model"] jXd:=
 cal3 T.f_l_step kJ5 fun _ _ _ _ _ _ _ hr hu nd=>
  (jJe (jKf (i:=2) nd (e_ix (ix_F hu) (jJc 1) jJw (fun _ _=>rfl)))
   (jJe (jKf (i:=3) nd (jKo (jJ1 T) (hr.mono (by decide)) (jJb (jJc 0) (jJb (jK1 (qK9 rfl) (by rfl) T.n_max rfl (jJb jJj (jJb (e_op o_addF (e_ix (ix_F hu) (e_ix (ix_F hu) (jJc 1) jJw (fun _ _=>rfl)) (jJc 2) (fun _ _=>rfl)) (jKq kZz (by rfl) T.n_int rfl (jJb (kUk (jZa hr.units) (jKo (jJ1 T) (hr.mono (by decide)) (jJb (jJc 0) (jJb jJj jJh))) jJj (jJp _)) jJh))) jJh))) jJh))))
   (jJe (s_if (jKm (jZa hr.units) (jKo (jJ1 T) (hr.mono (by decide)) (jJb (jJc 0) (jJb jJj jJh))) jJj (jJp _)) (jJm (jKf (i:=3) nd (e_un u_neg jJj))) jJ9)
   (jJe (jKf (i:=4) nd (e_bm PySem.F.plainAttrs_dict PySem.F.slot_dict_get PySem.F.type_dict_get (kVv hu) (e_ix (ix_F hu) (jJc 1) jJw (fun _ _=>rfl)) (jJb (jK9 (jJb (jJc 2) (jJb (jJc 3) jJh))) jJh)))
   (jJe (jKf (i:=5) nd (jKo (jXp T) (hr.mono (by decide)) (jJb (jKo (jJ1 T) (hr.mono (by decide)) (jJb (jJc 0) (jJb (e_ix (ix_F hu) (jX2 (jJb jJj (jJb jJj jJh))) (jKq kZz (by rfl) T.n_int rfl (jJb (kUk (jZa hr.units) (jKo (jJ1 T) (hr.mono (by decide)) (jJb (jJc 0) (jJb jJj jJh))) jJj (jJp _)) jJh)) (fun _ _=>rfl)) jJh))) jJh)))
   (jJe (s_if (PW3.pt (kYi (jKm qJd (jJc 4) jX0 (jJp _)) (kUu (jKm o_gt (jKo (jJ1 T) (hr.mono (by decide)) (jJb (jJc 0) (jJb jJj jJh))) jJj (jJp _))))) (jJm (jKf (i:=5) nd (e_ix (ix_F hu) (jJc 4) jJj (fun _ _=>rfl)))) jJ9)
   (jJe (jKf (i:=6) nd (e_bm PySem.F.plainAttrs_dict PySem.F.slot_dict_get PySem.F.type_dict_get qJe (e_ix (ix_F hu) (jJc 1) jJw (fun _ _=>rfl)) (jJb (jJc 5) (jJb (e_op o_addF jJj (jKo (jJ1 T) (hr.mono (by decide)) (jJb (jJc 0) (jJb jJj jJh)))) jJh))))
   (jJe (s_if (jKm (jZa hr.units) (jKo (jJ1 T) (hr.mono (by decide)) (jJb (jJc 0) (jJb jJj jJh))) jJj (jJp _)) (jJm (jKf (i:=6) nd (jKo (jJ1 T) (hr.mono (by decide)) (jJb (jJc 0) (jJb jJj jJh))))) jJ9)
   (jJe (jKf (i:=7) nd (jKo (jJ1 T) (hr.mono (by decide)) (jJb (jJc 0) (jJb (jK1 (qK9 rfl) (by rfl) T.n_max rfl (jJb jJj (jJb (e_op o_addF (jJc 6) (jKq kZz (by rfl) T.n_int rfl (jJb (kUk (jZa hr.units) (jKo (jJ1 T) (hr.mono (by decide)) (jJb (jJc 0) (jJb jJj jJh))) jJj (jJp _)) jJh))) jJh))) jJh))))
   (jJe (s_if (PW3.pt (kYi (jKm qJd (jJc 4) jX0 (jJp _)) (kYi (jKm (jZa hr.units) (jJc 5) (e_ix (ix_F hu) (jJc 4) jJj (fun _ _=>rfl)) (jJp _)) (kUu (jKm o_gt (jKo (jJ1 T) (hr.mono (by decide)) (jJb (jJc 0) (jJb jJj jJh))) jJj (jJp _)))))) (jJm (jKf (i:=7) nd (e_ix (ix_F hu) (jJc 4) jJj (fun _ _=>rfl)))) jJ9)
   (jJm (jKn (jK9 (jJb (jJc 3) (jJb (jJc 7) (jJb (jJc 5) (jJb (jJc 6) jJh)))))))))))))))))
variable {f:Addr}
theorem ok_law (T:Txt K mg){fd:FuncData}(F:Fun K "law" "law" (top 27) f fd):Fn3 P w K mg base 6 f fd ["_law_script"] kU7:=by
 have S:FnScope N_law ["_law_script"] (jJd (top 27)):=⟨rfl,rfl,rfl,by decide +kernel,rfl,by decide +kernel,by decide +kernel⟩
 refine fn3 F S fun cdv A outer s H E hr=>⟨kK8,?_,kYw⟩
 have hu:=kV9 hr
 have nd:=S.nd
 exact (jJe (jKf (i:=1) nd (jKo (kQc T) (hr.mono (by decide)) (jJb (jJc 0) (jJb jJj jJh))))
   (jJe (jKf (i:=2) nd (jKo (jJ1 T) (hr.mono (by decide)) (jJb (jJc 1) (jJb jJj jJh))))
   (jJe (jKf (i:=3) nd (e_make (jY7 T) (hr.mono (by decide)) (jJb (jKo (jXp T) (hr.mono (by decide)) (jJb jJj jJh)) (jJb (jJc 2) jJh))))
   (jJe (jKf (i:=4) nd (jKo (kUa T) (hr.mono (by decide)) (jJb (jKo (jXp T) (hr.mono (by decide)) (jJb jJj jJh)) (jJb (jJc 2) jJh))))
   (jJe (kQ4 PassesOwn.never rfl (jUa rfl T.n_range (jJb (jK1 (qK9 rfl) (by rfl) T.n_max rfl (jJb jJj (jJb (jK1 kX5 (by rfl) T.n_len PySem.boot_len (jJb (qK1 sl_F (jJc 0) (qJc jJj) (qJc jJj)) jJh)) jJh))) jJh)) (jKd (i:=5) nd) (jJe (jKf (i:=1) nd (jKo (kQc T) (hr.mono (by decide)) (jJb (jJc 0) (jJb (e_op o_addF (jJc 5) jJj) jJh))))
   (jJm (kQ4 PassesOwn.never rfl (jUa rfl T.n_range (jJb jJj jJh)) (jKd (i:=6) nd) (jJe (jYb (jKo (kVl T) (hr.mono (by decide)) (jJb (jJc 1) (jJb (jJc 4) jJh))) (kXd rfl (jKv (jKd (i:=7) nd) (jKv (jKd (i:=8) nd) (jKv (jKd (i:=9) nd) (jKv (jKd (i:=2) nd) kJf))))))
   (jJe (jKf (i:=10) nd (jKo (kY8 T) (hr.mono (by decide)) (jJb (jJc 4) (jJb (jJc 7) (jJb (jJc 8) (jJb (jJc 9) (jJb (jJc 2) jJh)))))))
   (jJe (s_if (jKm (jY9 hr.units) (jKo (kVk T) (hr.mono (by decide)) (jJb (jJc 3) (jJb (jJc 7) (jJb (jJc 8) (jJb (jJc 9) (jJb (jJc 2) jJh)))))) (jJc 10) (jJp _)) (jJm (jKn e_bl)) jJ9)
   (jJe (s_if (jKm kVn (jJc 10) jX0 (jJp _)) (jJm (jUv (jKo (jZ3 T) (hr.mono (by decide)) (jJb (jJc 4) (jJb (jJc 7) (jJb (jJc 8) (jJb (jJc 9) (jJb (jJc 2) jJh)))))))) jJ9)
   (jJm (s_if (kU1 (kYm (jKo (jVw T) (hr.mono (by decide)) (jJb (jJc 3) (jJb (jJc 4) jJh))))) (jJm (jKn e_bl)) jJ9))))))))))
   (jJm (jKn e_bl)))))))
def qJw (K:PySem.W.Frag):Sp:=dn K 1 kU7
variable {oc doc pm cdv ct:Value}{od an:Option Addr}{osl:Array (Option Value)}
theorem fn_at {h:Heap}{kV:Value}(X:K.In h)(G:h.Ns mainGlobals mg)(a:PySem.W.nsIn K mainGlobals x=some (some (.ref f)))(l:K.lookup f=some ⟨oc,od,.func (PySem.W.fnOf x x (jKp (top i)) (jJx (top i)) (jJd (top i)) .none kV doc pm an cdv ct),osl⟩)(c:PySem.W.codeIn K cdv x=true)(k:PySem.W.keepIn K (.ref f)=true):FnAt K mg x i:=⟨f,_,PySem.W.mg_of X G a,kQm l c k⟩
variable {l:PySem.W.OpenLaw}
theorem all_mk {fa:Addr}(hfa:mg "law"=some (.ref fa))(T:Txt K mg):
  ∃fd:FuncData,(∀(s:Shared) (v:Value),BindsTo s fd ⟨[v],[]⟩ [("_law_script",v)])/\∀base:Heap,K.In base->base.Ns mainGlobals mg->FnOk l.prog w K mg base CX0 6 fa fd ["_law_script"] (qJw K):=by
 obtain⟨f,fd,a,F⟩:=T.f_law
 cases hfa.symm.trans a
 refine⟨fd,fun s v=> ?_,fun base _ _=>ok_law T F⟩
 obtain⟨_,_,kV,doc,pm,an,cdv,ct,_,e,_⟩:=F.ex
 subst e
 exact .of_eq rfl
variable {C:Addr}
theorem me_at {kV:Value}(a:PySem.W.findIn K (.ref C) m=some (some (.ref f)))(i:PySem.W.isFn K (.ref f)=true)(l:K.lookup f=some ⟨oc,od,.func (PySem.W.fnOf m q (jKp st) (jJx st) (jJd st) .none kV doc pm an cdv ct),osl⟩)(c:PySem.W.codeIn K cdv q=true)(k:PySem.W.keepIn K (.ref f)=true):MeF K C m q st:=⟨f,_,⟨a,i,k⟩,kQm l c k⟩
theorem mk_at {kV:Value}(a:PySem.W.findIn K (.ref C) "__init__"=some (some (.ref f)))(i:PySem.W.isFn K (.ref f)=true)(mk:PySem.W.makesIn K C=true)(kc:PySem.W.keepIn K (.ref C)=true)(l:K.lookup f=some ⟨oc,od,.func (PySem.W.fnOf "__init__" q (jKp st) (jJx st) (jJd st) .none kV doc pm an cdv ct),osl⟩)(c:PySem.W.codeIn K cdv q=true)(k:PySem.W.keepIn K (.ref f)=true):MkF K C q st:=⟨f,_,⟨mk,a,i,kc⟩,kQm l c k⟩
theorem fr_of {H:Hp}{a:Addr}{xs:List V}(hO:Only H)(hS:SqL K H a xs):FrL K H a xs:=by
 rcases hS with h | h
 ·rcases h with h | ⟨ob,h⟩
  ·rcases hO a with z | ⟨o,ys,z⟩
   ·rw[z] at h;cases h
   ·rw[z] at h;cases h
  ·exact .inl ⟨ob,h⟩
 ·exact .inr h
theorem jQa {K:PySem.W.Frag} {H:Hp}:∀ns:List Int,Reps K H (jU7 ns) (ns.map V.int)
 | []=>rfl
 | n::ns=>⟨_,_,rfl,rfl,jQa ns⟩
theorem walk {q:Program}{loose:List Str}{XP:(Str->Option Value)->Heap->Prop}{YP:World->Heap->Prop}{d:DefRec}{K:Params->PySem.W.Frag}(hn:l.most=some 63)(hdf:d.params.defaults=[])(hY:∀(w:World) (h:Heap),YP w h->(K w.params).In h)(F:∀(w:World) (mg:Str->Option Value) (fa:Addr) (h:Heap),(K w.params).In h->h.Ns mainGlobals mg->mg d.name=some (.ref fa)->
   ∃fd:FuncData,(∀(s:Shared) (u:Value),BindsTo s fd ⟨[u],[]⟩ [("_law_script",u)])/\∀base:Heap,(K w.params).In base->base.Ns mainGlobals mg->FnOk l.prog w (K w.params) mg base CX0 6 fa fd ["_law_script"] (qJw (K w.params))):
  PySem.W.WalkO q loose XP YP l.row.toRowW d [] (fun f vs=>PySem.call f vs):=
 L2.walk_of (n:=63) (k:=6) (x:="_law_script") (CX:=fun _=>CX0) (sp:=fun w=>qJw (K w.params)) hn (by decide) hdf ⟨rfl,rfl,by decide,by decide⟩ hY F
  (fun _ _ a ns hl hO hS=>⟨rfl,[.scr (jU7 ns)],fun _=>none,⟨_,_,rfl,⟨a,_,rfl,fr_of hO hS,jQa ns⟩,rfl⟩,(fun _ _ h=>nomatch h),ns,rfl,hl,fun G' v H' _ _ r=>r⟩) fun _ _ _ _ _ z=>z
end W
inductive PySem.W.Fast|tw539858085156762546|tw15668197361542050536|tw3368968577184629427|tw743448245325895947|tw12640739717851296979|tw9115776127157856446|tw8712211268257347976|tw17941112099230848335|tw9247624401055170827|tw8907726112098655711|tw4713784840415618752|tw6040240020382555571|tw5587328767197763082|tw733234793369817729|tw15093940329286109170|tw3672173719288323219|tw17486997916603746817|tw1974692044988933512|tw6071146520540828546|tw12731746126205849205|tw8602945682134921706|tw9140525031684533888|tw2240553151016521325|tw13408015790092486413|tw10841636476895180368|tw15197655150329341573|tw5424428608593796142|tw7111657640498076448|tw16443617095333804731|tw4339529704735795972|tw13684729742343942084|tw7534348109670989213|tw16101954691765304823|tw1130357914424670643|tw12300585251785744737|tw2254414055415989254|tw2231183400956475782|tw464859473759518401|tw5946621895760624333|tw1060185758349338149|tw4837650910071045404|tw12619390723037521442|tw7899523481955280077|tw13296190488494682827|tw6168600097420626879|tw6525368124831406394|tw4955043102816503664|tw192987244899111708|tw986225739101782857|tw3072202122551452453|tw3699610567876087789|tw14140368656984899005|tw12186161093723413815|tw6623002206657166504|tw3619443677423784553|tw13584296193868144027|tw16010209050143312454|tw4816749233908118100|tw12037497919725212699|tw7936529688914371463|tw3256026978837554645|tw13521940980365732696|tw14836227124636946902|tw11965331345254670026|tw13681696107524765754|tw16033199037282203996|tw10909424433096392542|tw7473354691173407793|tw556550807064576832|tw10893294052252389376|tw84216301586323246|tw1435351445314916738|tw1334485067795851986|tw3705247401241614202|tw17069700263872739598|tw1263074126701934117|tw17535139521981215582|tw17232374413699964972|tw526987087495814710|tw3599952013348064986|tw3488848207164996470|tw7788940580099925837|tw7433047934962776995|tw4580573894317368096|tw50458676760715778|tw11844617921716522193|tw4864707014047793294|tw2939315840378298271|tw4077996069395502186|tw7608081803835049035|tw8428961181324720554|tw4630321524038073599|tw1581767501047390026|tw16802354802417242545|tw17550319459226124763|tw333208986324392444|tw10922751291129732943|tw6224464352245067064|tw13001225814696475971|tw3887213901530400555|tw15826532033580830695|tw4063713105190081931|tw8335578495285947085|tw1735580267958968122|tw12085514121577982675|tw12999018181421463810|tw4309648204959718131|tw2362829232309357413|tw11966649492665287617|tw2715197961100105978|tw12552869769464847339|tw5518402307583290042|tw5112535818451741167|tw3122196420426956685|tw14180809167583692822|tw13294382699144767438|tw2081376483843037698|tw1867204237017562559|tw2407735785881500499|tw2835093916248005380|tw17316998911247192218|tw6472544513115521045|tw7289441033646186549|tw3441187710631972947|tw1185982092145171796|tw3666288624905316435|tw14215429290743208816|tw15393236926264101946|tw8203060208468318650|tw2605292104497757712|tw14077575217010961104|tw4136367742716918847|tw15027016915268520114|tw12414345962218539219|tw5062669754386789455|tw3747278455701020739|tw2038083765029127544|tw10056991805367677300|tw5624309791133465371|tw7094185984697283847|tw15753691083090495942|tw14562587609630877515|tw11474973587053286798|tw6676666691640796673|tw3645773403148541854|tw1609321207791440375|tw2910888697259749970|tw3627663960551545078|tw7366671557124900746|tw508403151718868357|tw10872216645718008797|tw8190217685393196033|tw11229208854730305922|tw10544777119468153638|tw17558145315746644026|tw10006112994509276914|tw10673042263440139174|tw927733444747465640|tw7286658622697358212|tw14697688831371425715|tw14760984520809879698|tw6587782835544944434|tw2314946788043899694|tw7388063245116796746|tw16551043757416298652|tw828517583782171517|tw5742206646429124918|tw10726775339402018627|tw6261044798528361380|tw15415778523628788741|tw2901471033938628158|tw4666735648260553531|tw6107124219908796832|tw9631928092556389056|tw7184060360680485525|tw1671476065299467476|tw3170289893411101974|tw2782623763175775713|tw2713795481920542111|tw709566726303259447|tw16947855399761663366|tw15232519711269504988|tw13650966985451944269|tw6979431942776940563|tw10545078705991926594|tw8965732507381290212|tw7255059352899384684|tw11979826671791960461|tw17281514090388225019|tw8627802656541579103|tw8248248339525091602|tw11662384442043413757
open PySem PySem.W PyProof.Rows
set_option maxRecDepth 100000 in
set_option maxHeartbeats 0 in
theorem PySem.Challenge.cw_stonewalker_k57_steps_refused_holds : PySem.Challenge.rw_stonewalker_k57_steps_refused.Holds := by
 w_on;o_law;k_head;(case hw=>w_witness2)
 k_fill
 refine W.walk (l:=PySem.Challenge.rw_stonewalker_k57_steps_refused) rfl rfl (fun w h Y=>PySem.W.kIn_of Y) ?F
 case F=>
  intro w mg fa h KX G hmg
  refine W.all_mk hmg ?T
  constructor
  iterate 11 (refine PySem.W.mg_none_of KX G ?_;k_is)
  (refine' L3.subW (bs:=["NoDoor","Clash"]) (L3.sub2 (L3.exsub_mk KX G (L3.cxOfN (by decide +kernel) ?x0_a0) ?x0_b0 ?x0_q0) (L3.exsub_mk KX G (L3.cxOfN (by decide +kernel) ?x0_a1) ?x0_b1 ?x0_q1)) (by decide +kernel);(case x0_a0=>unfold L3.CN;k_is);(case x0_b0=>k_is);(case x0_q0=>kts_exm);(case x0_a1=>unfold L3.CN;k_is);(case x0_b1=>k_is);(case x0_q1=>kts_exm))
  (refine' L3.relW (bs:=[("NoDoor",false),("Clash",false)]) (L3.rel2 ⟨?x1_D_1,?x1_vs_1,(L3.cxOfN (by decide +kernel) ?x1_a_1),⟨?x1_k1_1,?x1_k2_1,?x1_k3_1,?x1_k4_1,?x1_k5_1,Option.isSome_iff_exists.mpr ((Option.bind_eq_some_iff.mp ?x1_k5_1).imp fun _ h=>h.1)⟩,.cons (.inl (PySem.W.mg_of KX G ?z1_BadRow_1)) (.cons (.inl (PySem.W.mg_of KX G ?z1_NoMark_1)) (.cons (.inl (PySem.W.mg_of KX G ?z1_NoStone_1)) (.cons (.inl (PySem.W.mg_of KX G ?z1_NotWhole_1)) (.cons (.inl (PySem.W.mg_of KX G ?z1_NoWeb_1)) (.cons (.inl (PySem.W.mg_of KX G ?z1_TooMany_1)) (.nil)))))),?x1_q_1⟩ ⟨?x1_D_2,?x1_vs_2,(L3.cxOfN (by decide +kernel) ?x1_a_2),⟨?x1_k1_2,?x1_k2_2,?x1_k3_2,?x1_k4_2,?x1_k5_2,Option.isSome_iff_exists.mpr ((Option.bind_eq_some_iff.mp ?x1_k5_2).imp fun _ h=>h.1)⟩,.cons (.inl (PySem.W.mg_of KX G ?z1_BadRow_2)) (.cons (.inl (PySem.W.mg_of KX G ?z1_NoMark_2)) (.cons (.inl (PySem.W.mg_of KX G ?z1_NoStone_2)) (.cons (.inl (PySem.W.mg_of KX G ?z1_NotWhole_2)) (.cons (.inl (PySem.W.mg_of KX G ?z1_NoWeb_2)) (.cons (.inl (PySem.W.mg_of KX G ?z1_TooMany_2)) (.nil)))))),?x1_q_2⟩) (by decide +kernel);(case x1_a_1=>unfold L3.CN;k_is);(case z1_BadRow_1=>k_is);(case z1_NoMark_1=>k_is);(case z1_NoStone_1=>k_is);(case z1_NotWhole_1=>k_is);(case z1_NoWeb_1=>k_is);(case z1_TooMany_1=>k_is);(case x1_k1_1=>k_is);(case x1_k2_1=>k_is);(case x1_k3_1=>k_is);(case x1_k4_1=>k_is);(case x1_k5_1=>k_is);(case x1_q_1=>kit_is);(case x1_a_2=>unfold L3.CN;k_is);(case z1_BadRow_2=>k_is);(case z1_NoMark_2=>k_is);(case z1_NoStone_2=>k_is);(case z1_NotWhole_2=>k_is);(case z1_NoWeb_2=>k_is);(case z1_TooMany_2=>k_is);(case x1_k1_2=>k_is);(case x1_k2_2=>k_is);(case x1_k3_2=>k_is);(case x1_k4_2=>k_is);(case x1_k5_2=>k_is);(case x1_q_2=>kit_is))
  (refine' L3.clsv_own KX G ?x2_b;(case x2_b=>k_is))
  (refine' L3.clsv_own KX G ?x3_b;(case x3_b=>k_is))
  (refine' L3.clsv_own KX G ?x4_b;(case x4_b=>k_is))
  (refine' L3.clsv_own KX G ?x5_b;(case x5_b=>k_is))
  (refine' L3.clsv_own KX G ?x6_b;(case x6_b=>k_is))
  (refine' L3.clsv_own KX G ?x7_b;(case x7_b=>k_is))
  (refine' L3.relW (bs:=[("NoDoor",true),("Clash",true)]) (L3.rel2 ⟨?x8_D_1,?x8_vs_1,(L3.cxOfN (by decide +kernel) ?x8_a_1),⟨?x8_k1_1,?x8_k2_1,?x8_k3_1,?x8_k4_1,?x8_k5_1,Option.isSome_iff_exists.mpr ((Option.bind_eq_some_iff.mp ?x8_k5_1).imp fun _ h=>h.1)⟩,.cons (.inr ⟨PySem.W.mg_none_of KX G ?z8_ValueError_1,rfl⟩) (.nil),?x8_q_1⟩ ⟨?x8_D_2,?x8_vs_2,(L3.cxOfN (by decide +kernel) ?x8_a_2),⟨?x8_k1_2,?x8_k2_2,?x8_k3_2,?x8_k4_2,?x8_k5_2,Option.isSome_iff_exists.mpr ((Option.bind_eq_some_iff.mp ?x8_k5_2).imp fun _ h=>h.1)⟩,.cons (.inr ⟨PySem.W.mg_none_of KX G ?z8_ValueError_2,rfl⟩) (.nil),?x8_q_2⟩) (by decide +kernel);(case x8_a_1=>unfold L3.CN;k_is);(case z8_ValueError_1=>k_is);(case x8_k1_1=>k_is);(case x8_k2_1=>k_is);(case x8_k3_1=>k_is);(case x8_k4_1=>k_is);(case x8_k5_1=>k_is);(case x8_q_1=>kit_is);(case x8_a_2=>unfold L3.CN;k_is);(case z8_ValueError_2=>k_is);(case x8_k1_2=>k_is);(case x8_k2_2=>k_is);(case x8_k3_2=>k_is);(case x8_k4_2=>k_is);(case x8_k5_2=>k_is);(case x8_q_2=>kit_is))
  (refine' L3.clsv_blt KX G ?x9_b rfl;(case x9_b=>k_is))
  (refine' L3.relW (bs:=[("NoDoor",true),("Clash",false)]) (L3.rel2 ⟨?x10_D_1,?x10_vs_1,(L3.cxOfN (by decide +kernel) ?x10_a_1),⟨?x10_k1_1,?x10_k2_1,?x10_k3_1,?x10_k4_1,?x10_k5_1,Option.isSome_iff_exists.mpr ((Option.bind_eq_some_iff.mp ?x10_k5_1).imp fun _ h=>h.1)⟩,.cons (.inl (PySem.W.mg_of KX G ?z10_NoDoor_1)) (.nil),?x10_q_1⟩ ⟨?x10_D_2,?x10_vs_2,(L3.cxOfN (by decide +kernel) ?x10_a_2),⟨?x10_k1_2,?x10_k2_2,?x10_k3_2,?x10_k4_2,?x10_k5_2,Option.isSome_iff_exists.mpr ((Option.bind_eq_some_iff.mp ?x10_k5_2).imp fun _ h=>h.1)⟩,.cons (.inl (PySem.W.mg_of KX G ?z10_NoDoor_2)) (.nil),?x10_q_2⟩) (by decide +kernel);(case x10_a_1=>unfold L3.CN;k_is);(case z10_NoDoor_1=>k_is);(case x10_k1_1=>k_is);(case x10_k2_1=>k_is);(case x10_k3_1=>k_is);(case x10_k4_1=>k_is);(case x10_k5_1=>k_is);(case x10_q_1=>kit_is);(case x10_a_2=>unfold L3.CN;k_is);(case z10_NoDoor_2=>k_is);(case x10_k1_2=>k_is);(case x10_k2_2=>k_is);(case x10_k3_2=>k_is);(case x10_k4_2=>k_is);(case x10_k5_2=>k_is);(case x10_q_2=>kit_is))
  (refine' L3.clsv_own KX G ?x11_b;(case x11_b=>k_is))
  (refine' L3.relW (bs:=[("NoDoor",false),("Clash",true)]) (L3.rel2 ⟨?x12_D_1,?x12_vs_1,(L3.cxOfN (by decide +kernel) ?x12_a_1),⟨?x12_k1_1,?x12_k2_1,?x12_k3_1,?x12_k4_1,?x12_k5_1,Option.isSome_iff_exists.mpr ((Option.bind_eq_some_iff.mp ?x12_k5_1).imp fun _ h=>h.1)⟩,.cons (.inl (PySem.W.mg_of KX G ?z12_Clash_1)) (.nil),?x12_q_1⟩ ⟨?x12_D_2,?x12_vs_2,(L3.cxOfN (by decide +kernel) ?x12_a_2),⟨?x12_k1_2,?x12_k2_2,?x12_k3_2,?x12_k4_2,?x12_k5_2,Option.isSome_iff_exists.mpr ((Option.bind_eq_some_iff.mp ?x12_k5_2).imp fun _ h=>h.1)⟩,.cons (.inl (PySem.W.mg_of KX G ?z12_Clash_2)) (.nil),?x12_q_2⟩) (by decide +kernel);(case x12_a_1=>unfold L3.CN;k_is);(case z12_Clash_1=>k_is);(case x12_k1_1=>k_is);(case x12_k2_1=>k_is);(case x12_k3_1=>k_is);(case x12_k4_1=>k_is);(case x12_k5_1=>k_is);(case x12_q_1=>kit_is);(case x12_a_2=>unfold L3.CN;k_is);(case z12_Clash_2=>k_is);(case x12_k1_2=>k_is);(case x12_k2_2=>k_is);(case x12_k3_2=>k_is);(case x12_k4_2=>k_is);(case x12_k5_2=>k_is);(case x12_q_2=>kit_is))
  (refine' L3.clsv_own KX G ?x13_b;(case x13_b=>k_is))
  (refine' L3.exwhy_mk ?x14_a ?x14_g ?x14_h ?x14_b ?x14_d ?x14_n;(case x14_a=>k_is);(case x14_g=>k_is);(case x14_h=>k_is);(case x14_b=>k_is);(case x14_d=>k_is);(case x14_n=>k_is))
  (refine' L3.exi_mk (st:=L2.inClass (W.top 7) 0) (bn:="WebError") (v1:="self") (v2:="words") (v3:="why") KX G W.ext_Clash ?x15_a ?x15_e ?x15_i ?x15_q ?x15_b ?x15_r ?x15_s ?x15_f ?x15_p ?x15_t ?x15_o ?x15_l ?x15_c ?x15_k;(case x15_a=>k_is);(case x15_e=>k_is);(case x15_i=>k_is);(case x15_q=>kernel_rfl);(case x15_b=>k_is);(case x15_r=>k_is);(case x15_s=>k_is);(case x15_f=>k_is);(case x15_p=>kernel_rfl);(case x15_t=>k_is);(case x15_o=>k_is);(case x15_l=>k_is);(case x15_c=>k_is);(case x15_k=>k_is))
  (refine' L3.exc_mk KX G ?x16_a ?x16_q;(case x16_a=>k_is);(case x16_q=>k_exc))
  refine' ⟨?zC0,?zn0,⟨?zp0,?zq0,?zr0,?zs0⟩,?zm0,?zt0_counts,?zt0_leads,?zt0_marks,?zt0_place,?zf0_Chart_init,?zf0_Chart_number_of,?zf0_Chart_refuse_clash,?zf0_Chart_went,?zf0_Chart_here,?zf0_Chart_rooms,?zf0_Chart_sketch,?zf0_Chart_open_doors⟩
  (case zn0=>unfold L3.CN;k_is)
  (case zp0=>k_is);(case zq0=>k_is);(case zr0=>k_is);(case zs0=>k_is);(case zm0=>(refine PySem.W.mg_of KX G ?_;k_is))
  (case zt0_counts=>unfold L2.NoAttr;k_is)
  (case zt0_leads=>unfold L2.NoAttr;k_is)
  (case zt0_marks=>unfold L2.NoAttr;k_is)
  (case zt0_place=>unfold L2.NoAttr;k_is)
  (case zf0_Chart_init=>(refine' W.mk_at ?a_Chart_init ?i_Chart_init ?m_Chart_init ?x_Chart_init ?l_Chart_init ?c_Chart_init ?k_Chart_init;(case a_Chart_init=>k_is);(case i_Chart_init=>k_is);(case m_Chart_init=>k_is);(case x_Chart_init=>k_is);(case l_Chart_init=>k_is);(case c_Chart_init=>k_is);(case k_Chart_init=>k_is)))
  (case zf0_Chart_number_of=>(refine' W.me_at ?a_Chart_number_of ?i_Chart_number_of ?l_Chart_number_of ?c_Chart_number_of ?k_Chart_number_of;(case a_Chart_number_of=>k_is);(case i_Chart_number_of=>k_is);(case l_Chart_number_of=>k_is);(case c_Chart_number_of=>k_is);(case k_Chart_number_of=>k_is)))
  (case zf0_Chart_refuse_clash=>(refine' W.me_at ?a_Chart_refuse_clash ?i_Chart_refuse_clash ?l_Chart_refuse_clash ?c_Chart_refuse_clash ?k_Chart_refuse_clash;(case a_Chart_refuse_clash=>k_is);(case i_Chart_refuse_clash=>k_is);(case l_Chart_refuse_clash=>k_is);(case c_Chart_refuse_clash=>k_is);(case k_Chart_refuse_clash=>k_is)))
  (case zf0_Chart_went=>(refine' W.me_at ?a_Chart_went ?i_Chart_went ?l_Chart_went ?c_Chart_went ?k_Chart_went;(case a_Chart_went=>k_is);(case i_Chart_went=>k_is);(case l_Chart_went=>k_is);(case c_Chart_went=>k_is);(case k_Chart_went=>k_is)))
  (case zf0_Chart_here=>(refine' W.me_at ?a_Chart_here ?i_Chart_here ?l_Chart_here ?c_Chart_here ?k_Chart_here;(case a_Chart_here=>k_is);(case i_Chart_here=>k_is);(case l_Chart_here=>k_is);(case c_Chart_here=>k_is);(case k_Chart_here=>k_is)))
  (case zf0_Chart_rooms=>(refine' W.me_at ?a_Chart_rooms ?i_Chart_rooms ?l_Chart_rooms ?c_Chart_rooms ?k_Chart_rooms;(case a_Chart_rooms=>k_is);(case i_Chart_rooms=>k_is);(case l_Chart_rooms=>k_is);(case c_Chart_rooms=>k_is);(case k_Chart_rooms=>k_is)))
  (case zf0_Chart_sketch=>(refine' W.me_at ?a_Chart_sketch ?i_Chart_sketch ?l_Chart_sketch ?c_Chart_sketch ?k_Chart_sketch;(case a_Chart_sketch=>k_is);(case i_Chart_sketch=>k_is);(case l_Chart_sketch=>k_is);(case c_Chart_sketch=>k_is);(case k_Chart_sketch=>k_is)))
  (case zf0_Chart_open_doors=>(refine' W.me_at ?a_Chart_open_doors ?i_Chart_open_doors ?l_Chart_open_doors ?c_Chart_open_doors ?k_Chart_open_doors;(case a_Chart_open_doors=>k_is);(case i_Chart_open_doors=>k_is);(case l_Chart_open_doors=>k_is);(case c_Chart_open_doors=>k_is);(case k_Chart_open_doors=>k_is)))
  iterate 13 (refine' W.fn_at KX G ?a ?l ?c ?k;(case a=>k_is);(case l=>k_is);(case c=>k_is);(case k=>k_is))

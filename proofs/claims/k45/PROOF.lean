import PyProof.Rows.All
import Wide.All
import OpenK.AllK
import Wide.FinOn
import Lean
import PyProof.EqAt
import PyProof.EqKinds
import PyProof.TupleCall
import PyProof.AttrMissHeap
import PySem.Challenge.RW_sealchain_k45_what_was_heard_changes
set_option Elab.async false
set_option linter.all false
set_option maxRecDepth 100000
set_option bootstrap.genMatcherCode false
set_option compiler.extract_closed false
set_option maxHeartbeats 40000000
theorem M9 {p:Prop}(h:p:=by lia):p:=h
theorem N9 {p:Prop}(h:p:=by simp):p:=h
theorem V9 {p:Prop}(h:p:=by decide):p:=h
theorem Z9 {p:Prop}(h:p:=by decide +kernel):p:=h
theorem H9 {p:Prop}(h:p:=by rfl):p:=h
theorem S9 {p:Prop}(h:p:=by simp;lia):p:=h
theorem I9 {p:Prop}(h:p:=by simp[sizeLine]):p:=h
theorem T9 {p:Prop}(h:p:=by kernel_rfl):p:=h
theorem u9 {p:Prop}(h:p:=by first|exact .inl rfl|exact .inr rfl):p:=h
theorem s9 {p:Prop}(h:p:=by size_fits):p:=h
theorem mY {α:Type _}{a:α}(l:List α){k:List α}(h:a∈k):a∈l++k:=List.mem_append_right l h
theorem mZ {α:Type _}(b:α){a:α}{l:List α}(h:a∈l):a∈b::l:=List.mem_cons_of_mem b h
theorem mX {α:Type _}{a:α}{l:List α}:a∈a::l:=List.mem_cons_self
theorem oX {α G:Type _}{o:Option α}{f:α->Option G}{b:G}(h:o.bind f=some b):∃a,o=some a/\f a=some b:=Option.bind_eq_some_iff.mp h
theorem oY {α G:Type _}{f:α->G}{o:Option α}{b:G}(h:o.map f=some b):∃a,o=some a/\f a=b:=Option.map_eq_some_iff.mp h
def wX:=@PySem.wpAny_bind
def wY:=@PySem.wpAny_pure
def vZ:=@PySem.Heap.get?_push_of_some
def vY:=@PySem.Heap.get?_push_size
def vX:=@PySem.Heap.lt_size
def vW:=@PySem.Heap.SameBut.update
theorem vV {α:Type _}{l:List α}{i:Nat}{a:α}(h:l[i]? = some a):∃h:i<l.length,l[i]=a:=List.getElem?_eq_some_iff.mp h
theorem vU {α:Type _}{l:List α}{i:Nat}(h:i<l.length):l[i]? = some l[i]:=List.getElem?_eq_getElem h
theorem vT (n:Nat):n<=n:=Nat.le_refl n
theorem vS {a b:Nat}(h:a<b):a≠b:=Nat.ne_of_lt h
theorem vR {n m k:Nat}:n<=m->m<=k->n<=k:=Nat.le_trans
theorem vQ {n m k:Nat}:n<m->m<=k->n<k:=Nat.lt_of_lt_of_le
theorem vP {α:Type _}{a b:α}{l:List α}(h:b∈a::l):b=a\/b∈l:=List.mem_cons.mp h
theorem vO {α G:Type _}{b:G}{f:α->G}{l:List α}(h:b∈l.map f):∃a,a∈l/\f a=b:=List.mem_map.mp h
theorem vN {α:Type _}{a:α}{p:α->Bool}{l:List α}(h:a∈l.filter p):a∈l/\p a=true:=List.mem_filter.mp h
theorem vM {α:Type _}(p:α->Bool)(l:List α):(l.filter p).length<=l.length:=List.length_filter_le p l
theorem vL {α:Type _}{l:List α}{i:Nat}{a:α}(h:l[i]? = some a):a∈l:=List.mem_of_getElem? h
theorem vK {α:Type _}{a b:α}(h:some a=some b):a=b:=Option.some.inj h
theorem vJ {α G:Type _}(a:α)(f:α->Option G):(some a).bind f=f a:=rfl
theorem vI {α G:Type _}{as:List α}(f:α->G):(as.map f).length=as.length:=List.length_map f
theorem vH {α:Type _}{l:List α}:l.toArray.size=l.length:=rfl
theorem vG {α:Type _}{xs:Array α}:xs.toList.length=xs.size:=rfl
theorem vF {α:Type _}{l:List α}{i:Nat}{a:α}:l.getD i a=l[i]?.getD a:=List.getD_eq_getElem?_getD
theorem vE {α:Type _}{a:α}{as:List α}:(a::as).length=as.length+1:=rfl
theorem vC (a b:Bool):((a && b)=true)=(a=true/\b=true):=Bool.and_eq_true a b
theorem vB {α:Type _}{i j:Nat}{a:α}{l:List α}(h:i≠j):(l.set i a)[j]? = l[j]?:=List.getElem?_set_ne h
theorem vA {α G:Type _}{f:α->G}{l:List α}{i:Nat}:(l.map f)[i]? = Option.map f l[i]?:=List.getElem?_map
theorem uZ {α:Type _}{as bs:List α}:(as++bs).length=as.length+bs.length:=List.length_append
theorem uY {α G:Type _}{f:α->G}{a:α}{l:List α}:(a::l).map f=f a::l.map f:=rfl
theorem uX:false≠true:=Bool.false_ne_true
theorem uW {α M:Type _}{f:α->M}{l G:List α}:(l++G).map f=l.map f++G.map f:=List.map_append
theorem uV:(false=true)=False:=Bool.false_eq_true
theorem uU {α:Type _}{x:Option α}(h:x.isSome=true):∃a,x=some a:=Option.isSome_iff_exists.mp h
theorem uT {α:Type _}{a b:α}(h:a∈[b]):a=b:=List.mem_singleton.mp h
theorem uS {α G:Type _}{b:G}{f:α->G}{l:List α}(h:∃a,a∈l/\f a=b):b∈l.map f:=List.mem_map.mpr h
theorem uQ {α:Type _}(as:List α):as++[]=as:=List.append_nil as
theorem uP {α G M:Type _}{g:G->M}{f:α->G}{l:List α}:(l.map f).map g=l.map (g ∘ f):=List.map_map
theorem uN (n:Nat):0<=n:=Nat.zero_le n
def zh {p:Prop}[Decidable p](h:p):decide p=true:=decide_eq_true h
def So {p:Prop}[Decidable p](h:¬p):decide p=false:=decide_eq_false h
def Ss {p:Prop}[Decidable p](h:decide p=true):p:=of_decide_eq_true h
noncomputable section
open PySem.W (Frag kia_one fnOf nsIn mg_of)
open List (mem_filter mem_range mem_append mem_append_left getElem?_set_self mem_filterMap nodup_cons of_mem_zip getElem?_append_right getElem?_append_left take_sublist length_take length_set all_cons any_cons nodup_nil lookup_cons length_replicate append_assoc not_mem_nil length_range all_eq_true mem_singleton lookup_cons_self find?_cons getElem_mem nodup_append take_add_one getElem?_eq_none ext_getElem? not_lt pairwise_cons lt_irrefl lt_trans nil_perm cons_lt_cons_iff cons_append mem_iff_getElem? getElem?_zip_eq_some length_zip zip_cons_cons foldl_cons take_length length_singleton fst_mem_of_mem_zipIdx length_zipIdx zip_map' mem_zipIdx_iff_getElem? filter_sublist pairwise_map mem_of_mem_take flatMap_cons map_id mem_cons length_nil filter_map filter_congr map_take)
open Nat (le_of_lt ne_of_gt le_of_eq le_succ_of_le le_succ lt_of_le_of_lt lt_succ_of_lt)
open PySem.F (slot_tuple_add slot_dict_get entry_dict_get plainAttrs_dict plainAttrs_list slot_tuple_iterator_next slot_zip_next entry_zip_next args_zip_next_1 called_set slot_set_iter plain_extend_loop slot_tuple_lt slot_tuple_gt slot_list_getattribute)
abbrev QV:=PySem.Value->PySem.Shared->Prop
abbrev AO:=List (PySem.Addr×PySem.Obj)
abbrev SV:=PySem.Str->Option PySem.Value
abbrev LU:=List PySem.Value
abbrev AV:=Array PySem.Value
abbrev LS:=List PySem.Str
abbrev QD:=List PySem.Expr
abbrev LN:=List Nat
abbrev LI:=List Int
abbrev OI:=Option Int
namespace L2
open PySem PySem.Spec PyProof.Rows
abbrev ft:=Sum Int Str
noncomputable def vy:ft->Value->Bool
 |.inl k,v=>Value.isInt k v
 |.inr x,v=>Value.isStrOf x v
noncomputable def TJ (w:World):ft->Int
 |.inl k=>hashInt k
 |.inr x=>hashStr w x
theorem eC:∀ {k:ft}{v:Value},vy k v=true->(∃i t,k=Sum.inl i/\v=Value.int i t)\/(∃x t,k=Sum.inr x/\v=Value.str x t)
 |.inl i,v,h=>by
  obtain⟨t,e⟩:=Value.isInt_shape (k:=i) (v:=v) h;exact .inl ⟨i,t,rfl,e⟩
 |.inr x,v,h=>by
  obtain⟨t,e⟩:=Value.isStrOf_shape (x:=x) (v:=v) h;exact .inr ⟨x,t,rfl,e⟩
theorem ED (i:Int)(t:Tok):vy (.inl i) (.int i t)=true:=by simp[vy,Value.isInt]
theorem EE (x:Str)(t:Tok):vy (.inr x) (.str x t)=true:=by simp[vy,Value.isStrOf]
theorem Nr (a b:Int):decide ((Sum.inl a:ft)=Sum.inl b)=(a == b):=by
 lia
theorem Nt (a b:Str):decide ((Sum.inr a:ft)=Sum.inr b)=decide (a=b):=by
 simp
theorem Nu (a:Int)(b:Str):decide ((Sum.inl a:ft)=Sum.inr b)=false:=H9
theorem Nv (a:Str)(b:Int):decide ((Sum.inr a:ft)=Sum.inl b)=false:=H9
def dm (prog:Program)(w:World):PySem.KeyKind prog w ft where
 is:=vy
 hash:=TJ w
 inj:=λv a b ha hb=>by
  grind[eC]
 byValue:=λk v h=>by
  rcases eC h with⟨i,t,rfl,rfl⟩|⟨x,t,rfl,rfl⟩<;>rfl
 pyHash:=λhv h=>by
  rcases eC hv with⟨i,t,rfl,rfl⟩|⟨x,t,rfl,rfl⟩
  .exact wpAny_pyHash_int h
  .exact wpAny_pyHash_str h
 eqBool:=λhu hv h=>by
  rcases eC hu with⟨i,t,rfl,rfl⟩|⟨x,t,rfl,rfl⟩
  .rcases eC hv with⟨j,u,rfl,rfl⟩|⟨y,u,rfl,rfl⟩
   .rw[Nr]at h;exact wpAny_eqBool_int h
   .rw[Nu]at h;exact SeqAt.EqAt.int_str i t y u _ _ _ _ h
  .rcases eC hv with⟨j,u,rfl,rfl⟩|⟨y,u,rfl,rfl⟩
   .rw[Nv]at h;exact SeqAt.EqAt.str_int x t j u _ _ _ _ h
   .rw[Nt]at h;exact wpAny_eqBool_str h
 «strs»:=λk x t v h=>by
  rcases eC h with⟨i,u,rfl,e⟩|⟨y,u,rfl,e⟩
  .exact nomatch e
  .injection e with G _;subst G;cases v<;>rfl
theorem zj (prog:Program)(w:World)(i:Int)(t:Tok):(dm prog w).is (.inl i) (.int i t)=true:=ED i t
theorem zk (prog:Program)(w:World)(x:Str)(t:Tok):(dm prog w).is (.inr x) (.str x t)=true:=EE x t
inductive V where
 |non|bl (b:Bool)|int (i:Int)|str (x:Str)|byt (b:Array UInt8)|flt (b:UInt64)|ref (a:Addr)|ty (n:String)
 deriving DecidableEq
def aX:V->Value->Prop
 |.non,u=>u=Value.none
 |.bl b,u=>u=Value.bool b
 |.int i,u=>∃t,u=Value.int i t
 |.str x,u=>∃t,u=Value.str x t
 |.byt b,u=>∃t,u=Value.bytes b t
 |.flt b,u=>∃t,u=Value.float b t
 |.ref a,u=>u=Value.ref a
 |.ty n,u=>u=Value.type n
abbrev bg:List V->LU->Prop:=Paired aX
theorem bg.length (r:bg xs us):xs.length=us.length:=Paired.length r
theorem bg.get:∀ {xs:List V}{us:LU}{i:Nat}{x:V},bg xs us->xs[i]? = some x->∃u,us[i]? = some u/\aX x u
 |_,_,_,_,.nil,e=>by simp at e
 |_,_,0,_,.cons r _,e=>by simp_all
 |_,_,i+1,x,.cons _ t,e=>by
  obtain⟨u,h1,h2⟩:=bg.get (i:=i) (x:=x) t (by simpa using e);simp_all
theorem bg.set (r:aX x u):∀ {xs:List V}{us:LU}(i:Nat),bg xs us->bg (xs.set i x) (us.set i u)
 |_,_,_,.nil=>.nil
 |_,_,0,.cons _ t=>.cons r t
 |_,_,i+1,.cons q t=>.cons q (bg.set r i t)
theorem bg.append:∀ {xs ys:List V}{us ws:LU},bg xs us->bg ys ws->bg (xs++ys) (us++ws)
 |_,_,_,_,.nil,s=>s
 |_,_,_,_,.cons r t,s=>.cons r (bg.append t s)
theorem bg.take:∀ {xs:List V}{us:LU}(n:Nat),bg xs us->bg (xs.take n) (us.take n)
 |_,_,0,_=>.nil
 |_,_,_+1,.nil=>.nil
 |_,_,n+1,.cons r t=>.cons r (bg.take n t)
theorem bg.drop:∀ {xs:List V}{us:LU}(n:Nat),bg xs us->bg (xs.drop n) (us.drop n)
 |_,_,0,r=>r
 |_,_,_+1,.nil=>.nil
 |_,_,n+1,.cons _ t=>bg.drop n t
theorem bg.none_of:∀ {xs:List V}{us:LU}{i:Nat},bg xs us->xs[i]? = none->us[i]? = none:=λ{xs us i} r e=>by
 have h1:=r.length;simp_all
def qG:Option V->Option Value->Prop
 |some v,some u=>aX v u
 |none,none=>True
 |_,_=>False
def KV {κ:Type}:List (κ×V)->List (κ×Value)->Prop:=Paired λ(p:κ×V) (q:κ×Value)=>p.1=q.1/\aX p.2 q.2
noncomputable def kV:ft->V
 |.inl i=>.int i
 |.inr x=>.str x
inductive HO where
  |lst (xs:List V)
  |tup (xs:List V)
  |dK (aR:List (ft×V)) (ob:Obj)|dT (aR:List (List ft×V))
  |set (S:Int->Bool) (n:Nat)
  |ins (C dx:Addr) (fs:List (Str×V))
  |own (x:Addr)
  |xd (fs:List (Str×V))
  |met (f x:Addr)
  |rng (lo hi:Int)
  |frz (o:Obj) (u:HO)
  |tbl (q:Str)
  |ext (φ:Heap->Prop)
abbrev Hp:=Addr->Option HO
noncomputable def upd (H:Hp)(a:Addr)(o:HO):Hp:=λb=>if b=a then some o else H b
theorem a8:upd H a o a=some o:=by unfold upd;rw[if_pos rfl]
theorem aK (h:b≠a):upd H a o b=H b:=by unfold upd;rw[if_neg h]
theorem nF:upd (upd H a o) a u=upd H a u:=by
 funext b;unfold upd;split<;>rfl
theorem Qx {H:Hp}{a b:Addr}{o u:HO}(h:H a=some o)(h':H b=some u)(d:o≠u):a≠b:=by
 lia
theorem bi {H:Hp}{a b:Addr}{o:HO}(h:H a=some o)(h':H b=none):a≠b:=by
 lia
section
variable (P:Program) (w:World)
def bP (H:Hp)(h:Heap)(a:Addr):HO->Prop
 |.lst xs=>xs.length<=sizeLine/\∃(its:LU)(n:Nat),bg xs its/\h.get? a=some { cls:=.type "list",data:=.seq its.toArray n }
 |.tup xs=>xs.length<=sizeLine/\∃its:LU,bg xs its/\IsTup h a its.toArray
 |.dK aR ob=>h.get? a=some ob/\aR.length<=sizeLine/\(a == sysModules)=false/\∃vs,KV aR vs/\h.DictOf (dm P w) a vs
 |.dT aR=>aR.length<=sizeLine/\(a == sysModules)=false/\∃xs:List (List ft×Addr×Value),
   Paired (λ(p:List ft×V) (q:List ft×Addr×Value)=>p.1=q.1/\H q.2.1=some (.tup (p.1.map kV))/\aX p.2 q.2.2) aR xs /\
   ∃o es O,h.get? a=some o/\o.ExactDict/\o.data=.dict es O/\es.toList=xs.map (entryOfKey (tupleKind (dm P w)))/\(xs.map (·.1)).Nodup
 |.set S n=>h.SetOf (intKind P w) a S n
 |.ins C dx fs=>H dx=some (.own a)/\fs.length<=1000/\dx≠a/\h.get? a=some (PySem.W.instObj C dx) /\
   ∃mA,h.Ns1 dx mA/\(∀f,qG (fs.lookup f) (mA f))/\PySem.Within mA (fs.map (·.1))
 |.own _=>∃o,h.get? a=some o
 |.xd fs=>∃mA,h.Ns1 a mA/\∀f,qG (fs.lookup f) (mA f)
 |.rng lo hi=>∃t u v,h.get? a=some { cls:=.type "range",data:=.fields #[.int lo t,.int hi u,.int 1 v] }
 |.frz o u=>h.get? a=some o/\bP H h a u
 |.tbl q=>∃ps:AV,h.get? a=some { cls:=.none,data:=.fields ps }/\TriplesOk ps.toList/\∀G M,codeAmong G ps.toList=some M->∃(c:Addr)(oc:Obj)(u:HO)(vs:AV)(t:Tok),M=.ref c/\H c=some (.frz oc u)/\oc.data=.fields vs/\vs[1]? = some (.str q t)
 |.met f x=>h.get? a=some (PySem.W.methodObj (.ref f) (.ref x))
 |.ext φ=>φ h/\(∃o,h.get? a=some o)/\∀h1 h2:Heap,φ h1->(∀o,h1.get? a=some o->h2.get? a=some o)->φ h2
def mw (H:Hp)(h:Heap):Prop:=∀a o,H a=some o->bP P w H h a o
end
section
variable {P:Program}{w:World}{H H':Hp}{h h':Heap}{a:Addr}{o:HO}
theorem bP.lt (x:bP P w H h a o):a<h.objs.size:=by
 cases o with
 |lst xs=>obtain⟨_,_,_,_,e⟩:=x;exact vX e
 |tup xs=>obtain⟨_,_,_,p⟩:=x;exact p.lt
 |dK aR ob=>exact vX (And.left x)
 |dT aR=>obtain⟨_,_,_,_,o,_,_,e,_⟩:=x;exact vX e
 |set S n=>obtain⟨o,_,_,_,e,_⟩:=x;exact vX e
 |ins C dx fs=>obtain⟨_,_,_,e,_⟩:=x;exact vX e
 |own y=>obtain⟨_,e⟩:=x;exact vX e
 |xd fs=>obtain⟨_,⟨_,_,_,e,_⟩,_⟩:=x;exact vX e
 |rng lo hi=>obtain⟨_,_,_,e⟩:=x;exact vX e
 |frz ob u=>obtain⟨e,_⟩:=x;exact vX e
 |tbl q=>obtain⟨_,e,_⟩:=x;exact vX e
 |met f y=>exact vX (show h.get? a=some _ from x)
 |ext φ=>obtain⟨_,⟨_,e⟩,_⟩:=x;exact vX e
theorem Paired.mapP {α T:Type}{F G:α->T->Prop}:∀ {M:List α}{O:List T},Paired F M O->(∀a b,F a b->G a b)->Paired G M O
 |_,_,.nil,_=>.nil
 |_,_,.cons r t,f=>.cons (f _ _ r) (Paired.mapP t f)
theorem bP.stay (x:bP P w H h a o)(k:∀b u,(b=a\/H b=some (.own a))->h.get? b=some u->h'.get? b=some u)
  (O:∀b,H b=some (.own a)->H' b=some (.own a)) (T:∀b xs,H b=some (.tup xs)->H' b=some (.tup xs)) (hf:∀b o u,H b=some (.frz o u)->H' b=some (.frz o u)):bP P w H' h' a o:=by
 induction o with
 |lst xs=>obtain⟨z,its,n,r,e⟩:=x;exact⟨z,its,n,r,k _ _ (.inl rfl) e⟩
 |tup xs=>obtain⟨z,its,r,ob,e,c⟩:=x;exact⟨z,its,r,ob,k _ _ (.inl rfl) e,c⟩
 |dK aR U=>obtain⟨g,z,y,vs,r,ob,es,G,e,c⟩:=x;exact⟨k _ _ (.inl rfl) g,z,y,vs,r,ob,es,G,k _ _ (.inl rfl) e,c⟩
 |dT aR=>
  obtain⟨z,y,xs,r,ob,es,G,e,c⟩:=x;exact⟨z,y,xs,Paired.mapP r λp q z=>⟨z.1,T _ _ z.2.1,z.2.2⟩,ob,es,G,k _ _ (.inl rfl) e,c⟩
 |set S n=>obtain⟨ob,es,G,t,e,c⟩:=x;exact⟨ob,es,G,t,k _ _ (.inl rfl) e,c⟩
 |ins C dx fs=>
  obtain⟨d,z,ne,e,mA,⟨od,es,G,e2,c⟩,r⟩:=x;exact⟨O _ d,z,ne,k _ _ (.inl rfl) e,mA,⟨od,es,G,k _ _ (.inr d) e2,c⟩,r⟩
 |own y=>obtain⟨ob,e⟩:=x;exact⟨ob,k _ _ (.inl rfl) e⟩
 |xd fs=>obtain⟨mA,⟨od,es,G,e,c⟩,r⟩:=x;exact⟨mA,⟨od,es,G,k _ _ (.inl rfl) e,c⟩,r⟩
 |rng lo hi=>obtain⟨t,u,v,e⟩:=x;exact⟨t,u,v,k _ _ (.inl rfl) e⟩
 |frz ob u ih=>obtain⟨e,q⟩:=x;exact⟨k _ _ (.inl rfl) e,ih q⟩
 |tbl q=>obtain⟨ps,e,t,c⟩:=x;exact⟨ps,k a _ (.inl rfl) e,t,λM i z=>let ⟨d,oc,u,vs,tk,j,l,m⟩:=c M i z;⟨d,oc,u,vs,tk,j,hf _ _ _ l,m⟩⟩
 |met f y=>
  have e:h.get? a=some (PySem.W.methodObj (.ref f) (.ref y)):=x;show h'.get? a=some (PySem.W.methodObj (.ref f) (.ref y));exact k a _ (.inl rfl) e
 |ext φ=>obtain⟨p,⟨o,e⟩,st⟩:=x;exact⟨st _ _ p λo q=>k _ _ (.inl rfl) q,⟨o,k _ _ (.inl rfl) e⟩,st⟩
theorem mw.lt (x:mw P w H h)(e:H a=some o):a<h.objs.size:=(x a o e).lt
theorem mw.fresh (x:mw P w H h)(e:h.objs.size<=a):H a=none:=by
 cases q:H a with
 |none=>rfl
 |some u=>exact absurd (vQ (x.lt q) e) (Nat.lt_irrefl _)
theorem mw.kept (x:mw P w H h)(k:∀b u,h.get? b=some u->h'.get? b=some u):mw P w H h':=λa o e=>
 (x a o e).stay (λb u _ q=>k b u q) (λ_ q=>q) (λ_ _ q=>q) λ_ _ _ q=>q
theorem mw.laid (x:mw P w H h)(k:∀b u,h.get? b=some u->h'.get? b=some u)(hp:h.objs.size<=a)(new:bP P w (upd H a o) h' a o):mw P w (upd H a o) h':=λb u e=>by
 have hn:=x.fresh hp;by_cases hb:b=a
 .simp_all[a8]
 .rw[aK hb]at e;exact(x b u e).stay (λc v _ q=>k c v q) (λc q=>by rw[aK (bi q hn)];exact q) (λc xs q=>by rw[aK (bi q hn)];exact q) λc o xs q=>by rw[aK (bi q hn)];exact q
end
def Rd (H:Hp)(a:Addr)(u:HO):Prop:=H a=some u\/∃o,H a=some (.frz o u)
theorem Rd.of (h:H a=some u):Rd H a u:=.inl h
theorem Rd.ok (r:Rd H a u)(x:mw P w H h):bP P w H h a u:=by
 rcases r with r|⟨o,r⟩
 .exact x a u r
 .obtain⟨_,q⟩:=x a _ r;exact q
def Qy:Option HO->Prop
 |some (.lst _)=>True
 |some (.dK _ _)=>True
 |some (.dT _)=>True
 |some (.set _ _)=>True
 |some (.ins _ _ _)=>True
 |some (.ext _)=>True
 |_=>False
section
variable {P:Program}{w:World}{H:Hp}{h h':Heap}{x e:Addr}{o':HO}
theorem mw.write (ok:mw P w H h)(G:Qy (H x))(he:e=x\/H e=some (.own x))(k:∀b u,b≠e->h.get? b=some u->h'.get? b=some u)(T:∃u,h'.get? e=some u)
  (new:bP P w (upd H x o') h' x o'):mw P w (upd H x o') h':=λb u q=>by
 have M:∀c y,H c=some (.own y)->c≠x:=λc y r z=>by subst z;rw[r]at G;exact G
 have O:∀c xs,H c=some (.tup xs)->c≠x:=λc xs r z=>by subst z;rw[r]at G;exact G
 by_cases hb:b=x
 .simp_all[a8]
 .rw[aK hb]at q;by_cases U:b=e
  .have a:H b=some (.own x):=by
    lia
   rw[q]at a;cases a;obtain⟨v,hv⟩:=T;exact⟨v,by rw[U];exact hv⟩
  .refine(ok b u q).stay (λc v hc r=>k c v ?_ r) (λc r=>by rw[aK (M c b r)];exact r) (λc xs r=>by rw[aK (O c xs r)];exact r) λc o xs r=>by rw[aK (λz=>by subst z;rw[r]at G;exact G)];exact r
   grind
end
structure Un (fs ex:List Addr)(H H':Hp)(h h':Heap):Prop where
 keep:∀b o,h.get? b=some o->H b=none->b∉fs->b∉ex->h'.get? b=some o
 slot:∀b o,h.get? b=some o->H b=none->b∈fs->b∉ex->∃sl,h'.get? b=some { o with slots:=sl }
 free:∀b o,h.get? b=some o->H b=none->b∉ex->H' b=none
 there:∀b o,h.get? b=some o->b∉ex->∃o',h'.get? b=some o'
 tups:∀b xs,H b=some (.tup xs)->H' b=some (.tup xs)
 frzs:∀b o u,H b=some (.frz o u)->H' b=some (.frz o u)
 tbls:∀b q,H b=some (.tbl q)->H' b=some (.tbl q)
section
variable {fs YJ ex ex':List Addr}{H H1 H2:Hp}{h h1 h2 h':Heap}{a x e:Addr}{o:HO}
theorem Un.any (u:Un fs ex H H1 h h1)(q:h.get? b=some ob)(n:H b=none)(hx:b∉ex):∃sl,h1.get? b=some { ob with slots:=sl }:=by
 by_cases hb:b∈fs
 .exact u.slot b ob q n hb hx
 .exact⟨ob.slots,u.keep b ob q n hb hx⟩
theorem Un.trans (a:Un fs ex H H1 h h1)(b:Un fs ex H1 H2 h1 h2):Un fs ex H H2 h h2 where
 keep:=λc ob q n hc hx=>b.keep c ob (a.keep c ob q n hc hx) (a.free c ob q n hx) hc hx
 slot:=λc ob q n hc hx=>by
  obtain⟨sl,G⟩:=a.slot c ob q n hc hx;obtain⟨M,e2⟩:=b.slot c _ G (a.free c ob q n hx) hc hx;exact⟨M,e2⟩
 free:=λc ob q n hx=>by
  obtain⟨o',G⟩:=a.there c ob q hx;exact b.free c o' G (a.free c ob q n hx) hx
 there:=λc ob q hx=>by
  obtain⟨o',G⟩:=a.there c ob q hx;exact b.there c o' G hx
 tups:=λc xs q=>b.tups c xs (a.tups c xs q)
 frzs:=λc ob xs q=>b.frzs c ob xs (a.frzs c ob xs q)
 tbls:=λc ps q=>b.tbls c ps (a.tbls c ps q)
theorem Un.kept (k:∀b u,h.get? b=some u->h'.get? b=some u):Un fs ex H H h h' :=
 ⟨λb ob q _ _ _=>k b ob q,λb ob q _ _ _=>⟨ob.slots,k b ob q⟩,λ_ _ _ n _=>n,λb ob q _=>⟨ob,k b ob q⟩,λ_ _ q=>q,λ_ _ _ q=>q,λ_ _ q=>q⟩
theorem Un.refl:Un fs ex H H h h:=Un.kept λ_ _ q=>q
theorem Un.laid (k:∀b u,h.get? b=some u->h'.get? b=some u)(hp:h.objs.size<=a)(hn:H a=none):Un fs ex H (upd H a o) h h' where
 keep:=λb u q _ _ _=>k b u q
 slot:=λb u q _ _ _=>⟨u.slots,k b u q⟩
 free:=λb u q n _=>by rw[aK (vS (vQ (vX q) hp))];exact n
 there:=λb u q _=>⟨u,k b u q⟩
 tups:=λb xs q=>by rw[aK (bi q hn)];exact q
 frzs:=λb u xs q=>by rw[aK (bi q hn)];exact q
 tbls:=λb ps q=>by rw[aK (bi q hn)];exact q
theorem Un.write (G:Qy (H x))(he:e=x\/H e=some (.own x))(k:∀b u,b≠e->h.get? b=some u->h'.get? b=some u)(M:∃u,h'.get? e=some u):Un fs ex H (upd H x o) h h':=by
 have hx:∀b,H b=none->b≠x:=λb n z=>by subst z;rw[n]at G;exact G
 have hb:∀b,H b=none->b≠e:=λb n z=>by
  simp_all
 have hm:∀b u,H b=some u->¬Qy (some u)->b≠x:=λb u q nm z=>by simp_all
 refine⟨λb u q n _ _=>k b u (hb b n) q,λb u q n _ _=>⟨u.slots,k b u (hb b n) q⟩,λb u q n _=>by rw[aK (hx b n)];exact n,λb u q _=>?_,
  λb xs q=>by rw[aK (hm b _ q λz=>z)];exact q,λb u xs q=>by rw[aK (hm b _ q λz=>z)];exact q,λb ps q=>by rw[aK (hm b _ q λz=>z)];exact q⟩
 grind
end
noncomputable def TK (h:Heap)(H:Hp):List Addr:=(List.range h.objs.size).filter λa=>(H a).isSome
def zm (h:Heap)(H:Hp):Heap:=PySem.W.hideAll h (TK h H)
theorem EF (h:Heap)(H:Hp):(zm h H).objs.size=h.objs.size:=PySem.W.hideAll_size _ _
theorem rf (e:h.get? b=some o)(n:H b=none):(zm h H).get? b=some o :=
 PySem.W.hideAll_get _ e λhm=>by
  have q:(H b).isSome=true:=(vN hm).2;simp_all
theorem Kk (e:(zm h H).get? b=some o):h.get? b=some o/\H b=none:=by
 have G:h.get? b=some o:=PySem.W.of_hideAll (TK h H) e;refine⟨G,?_⟩;cases q:H b with
 |none=>rfl
 |some x=>
  have hm:b∈TK h H:=mem_filter.mpr ⟨mem_range.mpr (vX G),by simp[q]⟩;simp_all[zm,PySem.W.hideAll_none]
noncomputable def Kl (g h:Heap)(L:Addr):AO:=(List.range h.objs.size).filterMap λa=>if a=L\/(g.get? a).isSome=true then none else (h.get? a).map λo=>(a,o)
def ay (g h:Heap)(L d:Addr):AO:=(Kl g h L).filter λp=>decide (p.1≠d)
structure Mod (K:Frag)(mg:Str->Option Value)(base:Heap):Prop where
 kin:K.In base
 glob:base.Ns mainGlobals mg
 blt:∃mb,base.Ns builtinsNs mb/\∀x:Str,x ≠ "__name__"->mb x=bootBuiltins x
 nolimit:base.NoLimit
 bmain:∃bm ob,mg "__builtins__" = some (.ref bm)/\bm≠builtinsNs/\base.get? bm=some ob/\ob.cls=.type "module"/\ob.dict=some builtinsNs/\ob.data=.plain
structure Cx where
 prog:Program
 w:World
 K:Frag
 mg:Str->Option Value
 base:Heap
 A:Around
 N:List Str
 s₀:Shared
 H₀:Hp
 env:Env
 outer:List Env
 stack:List Env
 ex:List Addr
 fn:Str->Bool
 calm:Bool
 pn:List (Addr×Obj)
 xe:Value->Shared->Prop
noncomputable def Gy (l:List Env):List Addr:=l.filterMap (·.frame)
abbrev Cx.fs (X:Cx):List Addr:=Gy X.outer
def Nw (sc:Scope)(x:Str):Prop:=sc.names.lookup x=some .local\/sc.names.lookup x=some .cell\/sc.names.lookup x=some .free
def Kb (sc:Scope)(x:Str):Prop:=sc.names.lookup x=some .local\/sc.names.lookup x=some .cell
def TL (env:Env)(h:Heap)(m:SV)(x:Str)(u:Value):Prop :=
 (env.kindOf x=some .local/\m x=some u)\/((env.kindOf x=some .cell\/env.kindOf x=some .free)/\∃c,env.cells.lookup x=some c/\h.IsCell c (some u))
abbrev wq {α:Type}(X:Cx):Sem α->(α->Shared->Prop)->(Value->Shared->Prop)->Shared->Prop:=wpAny (model X.prog X.w) X.A
structure Cx.Ok (X:Cx):Prop where
 mod:Mod X.K X.mg X.base
 kind:X.env.scope.kind=.function
 glob:X.env.globals=mainGlobals
 blt:X.env.builtins=builtinsNs
 above:X.s₀.heap.objs.size<=X.env.locals
 inj:∀x y c,X.env.cells.lookup x=some c->X.env.cells.lookup y=some c->x=y
 has:∀x,(X.env.kindOf x=some .cell\/X.env.kindOf x=some .free)->∃c,X.env.cells.lookup x=some c
 cab:∀x c,X.fn x=true->X.env.cells.lookup x=some c->X.s₀.heap.objs.size<=c
 hd:X.calm=true->X.A.handled=none
 frames:X.A.frames=some X.stack
 stk:X.stack=X.outer\/(X.stack=X.env::X.outer/\X.env.frame=some X.env.locals)
 exf:∀b∈X.ex,b≠X.env.locals/\∀x c,X.env.cells.lookup x=some c->c≠b
 bs:∀b o,X.base.get? b=some o->X.s₀.heap.get? b=some o/\X.H₀ b=none
 bsz:X.base.objs.size<=X.s₀.heap.objs.size
 noex:∀b o,X.base.get? b=some o->b∉X.ex
 exfs:∀b∈X.ex,b∉X.fs
 funs:X.s₀.heap.FunFrames X.base X.outer
 frf:∀b∈X.fs,X.H₀ b=none
structure Inv (X:Cx)(ag:List (Addr×Obj))(σ:List (Option V))(H:Hp)(s:Shared):Prop where
 ok:X.Ok
 os:s.os=X.s₀.os
 bare:AllBare s.gens
 base:Un X.fs X.ex X.H₀ H X.s₀.heap s.heap
 loc:∃m,s.heap.Ns X.env.locals m/\∀(i:Nat)(x:Str)(v:V),X.N[i]? = some x->σ[i]? = some (some v)->Nw X.env.scope x->∃u,aX v u/\TL X.env s.heap m x u
 cell:∀x c,X.env.cells.lookup x=some c->∃v,s.heap.IsCell c v
 free:H X.env.locals=none
 freeC:∀x c,X.env.cells.lookup x=some c->H c=none
 pin:∀p∈X.pn++ag,s.heap.get? p.1=some p.2/\H p.1=none/\p.1≠X.env.locals/\p.1∉X.fs/\∀v,p.2.data≠.cell v
 hok:mw X.prog X.w H s.heap
 len:σ.length=X.N.length
section
variable {X:Cx}{ag:AO}{σ:List (Option V)}{H H':Hp}{s:Shared}{h':Heap}
theorem Cx.Ok.nofr (ok:X.Ok)(e:X.base.get? b=some o):b∉X.fs:=λhb=>by
 have:=(ok.funs.mem hb).1;simp_all
theorem Inv.bs (I:Inv X ag σ H s):∀b o,X.base.get? b=some o->s.heap.get? b=some o/\H b=none:=λb o e=>
 ⟨I.base.keep b o (I.ok.bs b o e).1 (I.ok.bs b o e).2 (I.ok.nofr e) (I.ok.noex b o e),I.base.free b o (I.ok.bs b o e).1 (I.ok.bs b o e).2 (I.ok.noex b o e)⟩
theorem Inv.bk (I:Inv X ag σ H s):∀b o,X.base.get? b=some o->s.heap.get? b=some o:=λb o e=>(I.bs b o e).1
theorem Inv.mod (I:Inv X ag σ H s):Mod X.K X.mg X.base:=I.ok.mod
theorem Inv.kIn (I:Inv X ag σ H s):X.K.In s.heap:=I.ok.mod.kin.keeps I.bk
theorem Inv.nolimit (I:Inv X ag σ H s):s.heap.NoLimit:=I.ok.mod.nolimit.keeps I.bk
theorem Inv.lt (I:Inv X ag σ H s):X.env.locals<s.heap.objs.size:=let ⟨_,hn,_⟩:=I.loc;hn.lt
theorem Inv.sz (I:Inv X ag σ H s):X.s₀.heap.objs.size<=s.heap.objs.size:=vR I.ok.above (le_of_lt I.lt)
theorem Inv.nofs (I:Inv X ag σ H s)(h:s.heap.objs.size<=a):a∉X.fs:=λhb=>by
 obtain⟨_,o,G,_⟩:=I.ok.funs.mem hb;exact absurd (vQ (vX G) (vR I.sz h)) (Nat.lt_irrefl _)
theorem Inv.cne (I:Inv X ag σ H s):∀x c,X.env.cells.lookup x=some c->c≠X.env.locals:=λx c e z=>by
 obtain⟨v,o,O,hd⟩:=I.cell x c e;obtain⟨m,⟨o',es,T,G,M,_⟩,_⟩:=I.loc;simp_all
theorem Inv.funs (I:Inv X ag σ H s):s.heap.FunFrames X.base X.outer:=by
 have all:∀(l:List Env),(∀b∈Gy l,b∈X.fs)->X.s₀.heap.FunFrames X.base l->s.heap.FunFrames X.base l:=by
  intro l;induction l with
  |nil=>intro _ _;trivial
  |cons env r ih=>
   intro hs hl;obtain⟨hk,⟨L,o,hf,hn,M,hd⟩,O⟩:=hl;have G:L∈X.fs:=hs L (by simp_all[Gy]);obtain⟨sl,e⟩:=I.base.slot L o M (I.ok.frf L G) G λz=>I.ok.exfs L z G;exact⟨hk,⟨L,_,hf,hn,e,hd⟩,ih (λb hb=>hs b (by simp_all[Gy])) O⟩
 exact all X.outer (λ_ hb=>hb) I.ok.funs
theorem Inv.stack (I:Inv X ag σ H s):s.heap.FunFrames X.base X.stack:=by
 rcases I.ok.stk with e|⟨e,hf⟩
 .rw[e];exact I.funs
 .rw[e];obtain⟨m,hn,_⟩:=I.loc;refine .cons (by rw[I.ok.kind];decide) hf hn ?_ I.funs;exact Heap.get?_none_of_le (vR I.ok.bsz I.ok.above)
theorem Inv.stkSub (I:Inv X ag σ H s):∀b∈Gy X.stack,b∈X.env.locals::X.fs:=λb hb=>by
 rcases I.ok.stk with e|⟨e,hf⟩
 .simp_all
 simp_all[Gy]
theorem Inv.stkFree (I:Inv X ag σ H s):∀b∈Gy X.stack,H b=none:=λb hb=>by
 rcases vP (I.stkSub b hb)with e|hb
 .rw[e];exact I.free
 .obtain⟨_,o,G,_⟩:=I.ok.funs.mem hb;exact I.base.free b o G (I.ok.frf b hb) λz=>I.ok.exfs b z hb
theorem Inv.step {g':Array GenState}{t':Nat}{d':Drawn}{ch:List Addr}(I:Inv X ag σ H s)
  (G:∀b∈ch,(b∈X.ex\/X.s₀.heap.objs.size<=b)/\b≠X.env.locals/\(∀x c,X.env.cells.lookup x=some c->c≠b)/\∀p∈X.pn++ag,p.1≠b)
  (keep:∀b o,b≠X.env.locals->b∉X.fs->b∉ch->s.heap.get? b=some o->H b=none->h'.get? b=some o)
  (slot:∀b o,b≠X.env.locals->b∈X.fs->b∉ch->s.heap.get? b=some o->H b=none->∃sl,h'.get? b=some { o with slots:=sl }) (free:∀b o,b∉ch->s.heap.get? b=some o->H b=none->H' b=none)
  (there:∀b o,b∉ch->s.heap.get? b=some o->∃o',h'.get? b=some o')
  (tups:∀b xs,H b=some (.tup xs)->H' b=some (.tup xs)) (frzs:∀b o u,H b=some (.frz o u)->H' b=some (.frz o u)) (tbls:∀b q,H b=some (.tbl q)->H' b=some (.tbl q))
  (ns:∀m,s.heap.Ns X.env.locals m->h'.Ns X.env.locals m) (hok:mw X.prog X.w H' h') (h:AllBare g'):
  Inv X ag σ H' { s with heap:=h',gens:=g',drawn:=d',toks:=t' }:=by
 have f:∀b o,X.s₀.heap.get? b=some o->b≠X.env.locals:=λb o e=>vS (vQ (vX e) I.ok.above);have T:∀b o,X.s₀.heap.get? b=some o->b∉X.ex->b∉ch:=λb o e hx hb=>by
  rcases (G b hb).1 with z|z
  .exact hx z
  .exact absurd (vQ (vX e) z) (Nat.lt_irrefl _)
 have M:∀x c,X.env.cells.lookup x=some c->∀v,s.heap.IsCell c v->h'.IsCell c v:=λx c e v ⟨o,a,hd⟩=>by
  have O:c∉ch:=λz=>(G c z).2.2.1 x c e rfl;by_cases hc:c∈X.fs
  .obtain⟨sl,q⟩:=slot c o (I.cne x c e) hc O a (I.freeC x c e);exact⟨_,q,hd⟩
  .exact⟨o,keep c o (I.cne x c e) hc O a (I.freeC x c e),hd⟩
 refine⟨I.ok,I.os,h,⟨λb o e n hb hx=>?_,λb o e n hb hx=>?_,λb o e n hx=>?_,λb o e hx=>?_,λb xs e=>tups b xs (I.base.tups b xs e),λb o xs e=>frzs b o xs (I.base.frzs b o xs e),λb ps e=>?_⟩,?_,λx c e=>?_,?_,λx c e=>?_,λp hp=>?_,hok,I.len⟩
 .exact keep b o (f b o e) hb (T b o e hx) (I.base.keep b o e n hb hx) (I.base.free b o e n hx)
 .obtain⟨sl,U⟩:=I.base.slot b o e n hb hx;obtain⟨j,e2⟩:=slot b _ (f b o e) hb (T b o e hx) U (I.base.free b o e n hx);exact⟨j,e2⟩
 .obtain⟨o',U⟩:=I.base.there b o e hx;exact free b o' (T b o e hx) U (I.base.free b o e n hx)
 .obtain⟨o',U⟩:=I.base.there b o e hx;exact there b o' (T b o e hx) U
 .exact tbls b _ (I.base.tbls b ps e)
 .obtain⟨m,hn,hl⟩:=I.loc;refine⟨m,ns m hn,λi x v U e2 t=>?_⟩;obtain⟨u,r,l⟩:=hl i x v U e2 t;refine⟨u,r,?_⟩;rcases l with l|⟨k,c,e,z⟩
  .exact .inl l
  .exact .inr ⟨k,c,e,M x c e _ z⟩
 .obtain⟨v,z⟩:=I.cell x c e;exact⟨v,M x c e v z⟩
 .obtain⟨m,⟨o,_,_,a,_⟩,_⟩:=I.loc;exact free _ o (λz=>(G _ z).2.1 rfl) a I.free
 .obtain⟨v,o,a,hd⟩:=I.cell x c e;exact free c o (λz=>(G c z).2.2.1 x c e rfl) a (I.freeC x c e)
 .obtain⟨e,n,ne,g,d⟩:=I.pin p hp;have O:p.1∉ch:=λz=>(G p.1 z).2.2.2 p hp rfl;exact⟨keep p.1 p.2 ne g O e n,free p.1 p.2 O e n,ne,g,d⟩
theorem Inv.un {t':Nat}(I:Inv X ag σ H s)(u:Un X.fs [] H H' s.heap h')(hok:mw X.prog X.w H' h'):Inv X ag σ H' { s with heap:=h',toks:=t' }:=by
 obtain⟨m,⟨o,es,c,T,r⟩,_⟩:=id I.loc;obtain⟨sl,U⟩:=u.any T I.free N9;exact I.step (g':=s.gens) (d':=s.drawn) (ch:=[]) (λ_ z=>nomatch z) (λb o _ hb _ e n=>u.keep b o e n hb N9) (λb o _ hb _ e n=>u.slot b o e n hb N9) (λb o _ e n=>u.free b o e n N9) (λb o _ e=>u.there b o e N9) u.tups u.frzs u.tbls (λd hm=>by
  obtain⟨o',M,O,G,a⟩:=hm;rw[T]at G;cases G;exact⟨_,M,O,U,a⟩) hok I.bare
theorem Inv.call {g':Array GenState}{t':Nat}{d':Drawn}{ch:List Addr}(I:Inv X ag σ H s)(u:Un (Gy X.stack) ch H H' s.heap h')(hok:mw X.prog X.w H' h')(d:AllBare g')
  (G:∀b∈ch,(b∈X.ex\/X.s₀.heap.objs.size<=b)/\b≠X.env.locals/\(∀x c,X.env.cells.lookup x=some c->c≠b)/\∀p∈X.pn++ag,p.1≠b):
  Inv X ag σ H' { s with heap:=h',gens:=g',drawn:=d',toks:=t' }:=by
 obtain⟨m,⟨o,es,g,a,r⟩,_⟩:=id I.loc;obtain⟨sl,O⟩:=u.any a I.free λz=>(G _ z).2.1 rfl;exact I.step (ch:=ch) G (λb o O hb hc e n=>u.keep b o e n (λz=>(vP (I.stkSub b z)).elim O hb) hc) (λb o _ _ hc e n=>u.any e n hc) (λb o hc e n=>u.free b o e n hc) (λb o hc e=>u.there b o e hc) u.tups u.frzs u.tbls (λh hm=>by
  obtain⟨o',T,U,M,f⟩:=hm;rw[a]at M;cases M;exact⟨_,T,U,O,f⟩) hok d
theorem Inv.turned {t':Nat}{it:Addr}(I:Inv X ag σ H s)(k:∀b o,b≠it->s.heap.get? b=some o->h'.get? b=some o)(hn:H it=none)(G:it≠X.env.locals)
  (h1:it∈X.ex\/X.s₀.heap.objs.size<=it) (h2:∀x c,X.env.cells.lookup x=some c->c≠it) (h3:∀p∈X.pn++ag,p.1≠it):Inv X ag σ H { s with heap:=h',toks:=t' }:=by
 have M:∀b u,H b=some u->b≠it:=λb u e z=>by rw[z,hn]at e;cases e
 refine I.step (g':=s.gens) (d':=s.drawn) (ch:=[it]) (λb hb=>?_) (λb o _ _ hc e _=>k b o (λz=>hc (by simp[z])) e) (λb o _ _ hc e _=>⟨o.slots,k b o (λz=>hc (by simp[z])) e⟩) (λ_ _ _ _ n=>n)
  (λb o hc e=>⟨o,k b o (λz=>hc (by simp[z])) e⟩) (λ_ _ e=>e) (λ_ _ _ e=>e) (λ_ _ e=>e) (λm hm=>?_) (λb u e=>?_) I.bare
 .have e:b=it:=by simpa using hb
  subst e;exact⟨h1,G,h2,h3⟩
 .obtain⟨o,es,O,T,r⟩:=hm;exact⟨o,es,O,k _ o (Ne.symm G) T,r⟩
 .refine(I.hok b u e).stay (λc v hc q=>k c v ?_ q) (λ_ q=>q) (λ_ _ q=>q) λ_ _ _ q=>q;lia
theorem Inv.tok (I:Inv X ag σ H s)(t:Nat):Inv X ag σ H { s with toks:=t }:=I.un (h':=s.heap) (t':=t) Un.refl I.hok
theorem Inv.kept (I:Inv X ag σ H s)(k:∀b u,s.heap.get? b=some u->h'.get? b=some u):Inv X ag σ H { s with heap:=h',toks:=t' }:=I.un (Un.kept k) (I.hok.kept k)
theorem Inv.laid (I:Inv X ag σ H s)(k:∀b u,s.heap.get? b=some u->h'.get? b=some u)(hp:s.heap.objs.size<=a)(new:bP X.prog X.w (upd H a o) h' a o):
  Inv X ag σ (upd H a o) { s with heap:=h',toks:=t' }:=I.un (Un.laid k hp (I.hok.fresh hp)) (I.hok.laid k hp new)
theorem Inv.write (I:Inv X ag σ H s)(M:Qy (H x))(he:e=x\/H e=some (.own x))(k:∀b u,b≠e->s.heap.get? b=some u->h'.get? b=some u)(G:∃u,h'.get? e=some u)
  (new:bP X.prog X.w (upd H x o) h' x o):Inv X ag σ (upd H x o) { s with heap:=h',toks:=t' }:=I.un (Un.write M he k G) (I.hok.write M he k G new)
theorem Inv.pins_of (I:Inv X ag σ H s)(h:∀p∈G,s.heap.get? p.1=some p.2/\H p.1=none/\p.1≠X.env.locals/\p.1∉X.fs/\∀v,p.2.data≠.cell v):Inv X G σ H s :=
 ⟨I.ok,I.os,I.bare,I.base,I.loc,I.cell,I.free,I.freeC,λp hp=>(mem_append.mp hp).elim (λz=>I.pin p (mem_append_left _ z)) (h p),I.hok,I.len⟩
theorem zn {N:LS}(G:N.Nodup){i j:Nat}{x:Str}(a:N[i]? = some x)(b:N[j]? = some x):i=j:=by
 obtain⟨h1,M⟩:=vV a;obtain⟨h2,e2⟩:=vV b;exact(List.getElem_inj G).mp (M.trans e2.symm)
theorem vz {M:Model}{A:Around}{E:QV}{i:Nat}{x:Str}{v:V}{u:Value}{Q:Unit->Shared->Prop}(I:Inv X ag σ H s)(F:X.N.Nodup)(hi:X.N[i]? = some x)(hx:Kb X.env.scope x)(r:aX v u)
  (h:∀s',Inv X ag (σ.set i (some v)) H s'->(∃a,Heap.SameBut a s.heap s'.heap/\(a=X.env.locals\/X.env.cells.lookup x=some a))->Q () s') (hf:X.fn x=true\/X.env.scope.names.lookup x=some .local:=by first|exact .inl rfl|exact .inr rfl|assumption):wpAny M A (storeName X.env x u) Q E s:=by
 obtain⟨m,hn,hl⟩:=id I.loc;have L:(X.env.scope.kind == .class || (X.env.scope.kind == .module && X.env.locals != X.env.globals))=false:=by rw[I.ok.kind];rfl
 have T:i<σ.length:=by rw[I.len];exact(vV hi).1
 have cne:=I.cne;have G:∀ {a:Addr}{h':Heap},(∃o,s.heap.get? a=some o/\H a=none)->Heap.SameBut a s.heap h'->mw X.prog X.w H h':=λ{a h'} ha hs b ob e=>by
  obtain⟨_,_,Wy⟩:=ha;refine(I.hok b ob e).stay (λc g hc q=>(hs.2 c ?_).trans q) (λ_ q=>q) (λ_ _ q=>q) λ_ _ _ q=>q;lia
 rcases hx with hk|hk
 .refine wpAny_storeName_local hk hn (λh' P hs=>?_) L;obtain⟨R,_,_,S,_⟩:=id hn;refine h _ ⟨I.ok,I.os,I.bare,⟨λb o e n hb hx=>?_,λb o e n hb hx=>?_,I.base.free,λb o e hx=>?_,I.base.tups,I.base.frzs,I.base.tbls⟩,⟨_,P,λj y t O e2 B=>?_⟩,λy c e=>?_,I.free,I.freeC,λp hp=>?_,G ⟨R,S,I.free⟩ hs,by simpa using I.len⟩ ⟨_,hs,.inl rfl⟩
  .exact(hs.2 b (vS (vQ (vX e) I.ok.above))).trans (I.base.keep b o e n hb hx)
  .obtain⟨sl,O⟩:=I.base.slot b o e n hb hx;exact⟨sl,(hs.2 b (vS (vQ (vX e) I.ok.above))).trans O⟩
  .obtain⟨o',O⟩:=I.base.there b o e hx;exact⟨o',(hs.2 b (vS (vQ (vX e) I.ok.above))).trans O⟩
  .by_cases hj:j=i
   .subst hj;rw[hi]at O;cases O;rw[getElem?_set_self T]at e2;cases e2
    exact⟨u,r,.inl ⟨hk,N9⟩⟩
   .rw[vB (Ne.symm hj)]at e2;obtain⟨u',C,q⟩:=hl j y t O e2 B;refine⟨u',C,?_⟩;rcases q with⟨k,e⟩|⟨k,c,e,z⟩
    .refine .inl ⟨k,?_⟩;have:y≠x:=λe=>hj (zn F O (e ▸ hi));simp[this,e]
    .exact .inr ⟨k,c,e,z.sameBut hs (cne y c e)⟩
  .obtain⟨g,z⟩:=I.cell y c e;exact⟨g,z.sameBut hs (cne y c e)⟩
  .obtain⟨e,n,ne,D,d⟩:=I.pin p hp;exact⟨(hs.2 p.1 ne).trans e,n,ne,D,d⟩
 .have U:X.fn x=true:=by
   simp_all<;>lia
  obtain⟨c,hc⟩:=I.ok.has x (.inl hk);obtain⟨g,z⟩:=I.cell x c hc;refine wpAny_storeName_cell I.ok.kind hk hc z (λh' J hs=>?_);obtain⟨oc,K,W⟩:=id z;refine h { s with heap:=h' } ⟨I.ok,I.os,I.bare,⟨λb o e n hb hx=>?_,λb o e n hb hx=>?_,I.base.free,λb o e hx=>?_,I.base.tups,I.base.frzs,I.base.tbls⟩,⟨m,hn.sameBut hs (Ne.symm (cne x c hc)),λj y t O e2 B=>?_⟩,λy l e=>?_,I.free,I.freeC,λp hp=>?_,G ⟨oc,K,I.freeC x c hc⟩ hs,by simpa using I.len⟩ ⟨c,hs,.inr hc⟩
  .exact(hs.2 b (vS (vQ (vX e) (I.ok.cab x c U hc)))).trans (I.base.keep b o e n hb hx)
  .obtain⟨sl,O⟩:=I.base.slot b o e n hb hx;exact⟨sl,(hs.2 b (vS (vQ (vX e) (I.ok.cab x c U hc)))).trans O⟩
  .obtain⟨o',O⟩:=I.base.there b o e hx;exact⟨o',(hs.2 b (vS (vQ (vX e) (I.ok.cab x c U hc)))).trans O⟩
  .by_cases hj:j=i
   .subst hj;rw[hi]at O;cases O;rw[getElem?_set_self T]at e2;cases e2
    exact⟨u,r,.inr ⟨.inl hk,c,hc,J⟩⟩
   .rw[vB (Ne.symm hj)]at e2;obtain⟨u',C,q⟩:=hl j y t O e2 B;refine⟨u',C,?_⟩;rcases q with q|⟨k,l,e,Y⟩
    .exact .inl q
    .refine .inr ⟨k,l,e,Y.sameBut hs ?_⟩;rintro rfl;exact hj (zn F O (I.ok.inj _ _ _ e hc ▸ hi))
  .by_cases f:l=c
   .subst f;exact⟨_,J⟩
   .obtain⟨Z,z2⟩:=I.cell y l e;exact⟨Z,z2.sameBut hs f⟩
  .obtain⟨e,n,ne,D,d⟩:=I.pin p hp;refine⟨(hs.2 p.1 ?_).trans e,n,ne,D,d⟩;intro q;rw[q,K]at e;have q':oc=p.2:=vK e;exact d g (by rw[<-q'];exact W)
theorem zo {M:Model}{A:Around}{E:QV}{i:Nat}{x:Str}{v:V}{u:Value}{Q:Unit->Shared->Prop}(I:Inv X ag σ H s)(G:X.N.Nodup)(hi:X.N[i]? = some x)(hx:Kb X.env.scope x)(r:aX v u)
  (h:∀s',Inv X ag (σ.set i (some v)) H s'->Q () s') (hf:X.fn x=true\/X.env.scope.names.lookup x=some .local:=by first|exact .inl rfl|exact .inr rfl|assumption):wpAny M A (storeName X.env x u) Q E s :=
 vz I G hi hx r (λs' O _=>h s' O) hf
theorem Inv.call' (I:Inv X ag σ H s)(M:s'.os=s.os)(u:Un (Gy X.stack) ch H H' s.heap s'.heap)(hok:mw X.prog X.w H' s'.heap)(O:AllBare s'.gens)
  (G:∀b∈ch,(b∈X.ex\/X.s₀.heap.objs.size<=b)/\b≠X.env.locals/\(∀x c,X.env.cells.lookup x=some c->c≠b)/\∀p∈X.pn++ag,p.1≠b):Inv X ag σ H' s':=by
 obtain⟨h',g',d',t',o'⟩:=s';have e:o'=s.os:=M;subst e;exact I.call (g':=g') (t':=t') (d':=d') u hok O G
end
abbrev XK:=Value->Option Addr->Hp->Prop
abbrev St:=List (Option V)
abbrev VK:=V->Hp->Prop
abbrev TE:=St->Hp->VK->Prop
abbrev TT:=St->Hp->(Bool->Hp->Prop)->Prop
abbrev TA:=St->Hp->(List V->Hp->Prop)->Prop
structure Ends where
 nx:St->Hp->Prop
 rt:VK
 bk:St->Hp->Prop:=λ_ _=>False
 ct:St->Hp->Prop:=λ_ _=>False
abbrev TS:=Ends->St->Hp->Prop
def EP (X:Cx)(ag:AO)(σ:St)(Q:VK)(u:Value)(s':Shared):Prop:=∃v H',Inv X ag σ H' s'/\aX v u/\Q v H'
def TP (X:Cx)(ag:AO)(σ:St)(Q:Bool->Hp->Prop)(b:Bool)(s':Shared):Prop:=∃H',Inv X ag σ H' s'/\Q b H'
def AP (X:Cx)(ag:AO)(σ:St)(Q:List V->Hp->Prop)(us:LU)(s':Shared):Prop:=∃vs H',Inv X ag σ H' s'/\bg vs us/\Q vs H'
def SP (X:Cx)(ag:AO)(D:Ends)(f:Flow)(s':Shared):Prop :=
 match f with
 |.next=>∃G H',Inv X ag G H' s'/\D.nx G H'
 |.brk=>∃G H',Inv X ag G H' s'/\D.bk G H'
 |.cont=>∃G H',Inv X ag G H' s'/\D.ct G H'
 |.ret u=>∃v G H',Inv X ag G H' s'/\aX v u/\D.rt v H'
def PE (X:Cx)(e:Expr)(t:TE):Prop :=
 ∀(ag:AO)(s:Shared)(σ:St)(H:Hp)(Q:VK),Inv X ag σ H s->t σ H Q->wq X (eval e X.env) (EP X ag σ Q) X.xe s
def PT (X:Cx)(e:Expr)(t:TT):Prop :=
 ∀(ag:AO)(s:Shared)(σ:St)(H:Hp)(Q:Bool->Hp->Prop),Inv X ag σ H s->t σ H Q->wq X (isTrue e X.env (eval e X.env)) (TP X ag σ Q) X.xe s
def PW (X:Cx)(e:Expr)(t:TT):Prop :=
 ∀(G:Sem Value)(ag:AO)(s:Shared)(σ:St)(H:Hp)(Q:Bool->Hp->Prop),Inv X ag σ H s->t σ H Q->wq X (isTrue e X.env G) (TP X ag σ Q) X.xe s
theorem PW.pt (h:PW X e t):PT X e t:=h _
def PA (X:Cx)(es:QD)(t:TA):Prop :=
 ∀(G:Pos)(ag:AO)(s:Shared)(σ:St)(H:Hp)(Q:List V->Hp->Prop),Inv X ag σ H s->t σ H Q->wq X (spliced (backTo G (starEach es X.env))) (AP X ag σ Q) X.xe s
def PS (X:Cx)(st:Stmt)(t:TS):Prop :=
 ∀(ag:AO)(s:Shared)(σ:St)(H:Hp)(D:Ends),Inv X ag σ H s->t D σ H->wq X (exec st X.env) (SP X ag D) X.xe s
def uR (X:Cx)(st:List Stmt)(t:TS):Prop :=
 ∀(ag:AO)(s:Shared)(σ:St)(H:Hp)(D:Ends),Inv X ag σ H s->t D σ H->wq X (execs st X.env) (SP X ag D) X.xe s
theorem c7 {α:Type}{t:Sem α}{Q G:α->Shared->Prop}{M:Model}{A:Around}{E:QV}{s:Shared}(h:wpAny M A t Q E s)(O:∀a s,Q a s->G a s):wpAny M A t G E s:=wpAny_mono h O λ_ _ x=>x
section
variable {X:Cx}
def qH (i:Nat):TE:=λσ H Q=>∃v,σ[i]? = some (some v)/\Q v H
def tC (v:V):TE:=λ_ H Q=>Q v H
theorem rh (O:X.N[i]? = some x)(hv:Nw X.env.scope x)(hd:(x == ("__debug__" : Str))=false:=by decide)(M:(x == ("__classdict__" : Str))=false:=by decide):PE X (.Name x T) (qH i):=by
 intro ag s σ H Q I h;obtain⟨v,e,h⟩:=h;obtain⟨m,hn,hl⟩:=I.loc;obtain⟨u,r,l⟩:=hl i x v O e hv;have gz:EP X ag σ Q u s:=⟨v,H,I,r,h⟩;rcases l with⟨hk,hm⟩|⟨hk,c,hc,G⟩
 .exact wpAny_Name (wpAny_loadName_local I.ok.kind hk hn hm gz) hd
 .rcases hk with hk|hk
  .exact wpAny_Name (wpAny_loadName_cell I.ok.kind hk hc G gz) hd
  .exact wpAny_Name (wpAny_loadName_free I.ok.kind hk hc G gz M) hd
theorem Nx {i j G}:PE X (.Constant (.int i) j G) (tC (.int i)):=λ_ _ _ H _ I h=>wpAny_Constant_int ⟨.int i,H,I.tok _,⟨_,rfl⟩,h⟩
theorem Qz {b j G}:PE X (.Constant (.bool b) j G) (tC (.bl b)):=λ_ _ _ H _ I h=>Constant_bool ⟨.bl b,H,I,rfl,h⟩
theorem Ny {j G}:PE X (.Constant .none j G) (tC .non):=λ_ _ _ H _ I h=>Constant_none ⟨.non,H,I,rfl,h⟩
theorem Nz {x j G}:PE X (.Constant (.str x) j G) (tC (.str x)):=λ_ _ _ H _ I h=>Calls.Constant_str ⟨.str x,H,I.tok _,⟨_,rfl⟩,h⟩
def Gl (X:Cx)(x:Str):Prop:=X.env.kindOf x=some .globalImplicit
theorem xO {E:QV}{ag:AO}{s:Shared}{σ:St}{H:Hp}{x:Str}{u:Value}{G:Pos}{Q:QV}(I:Inv X ag σ H s)(M:Gl X x)(hm:X.mg x=some u)(h:Q u s)
  (hd:(x == ("__debug__" : Str))=false:=by decide):wq X (eval (.Name x G) X.env) Q E s :=
 Calls.Name_function_global I.ok.kind M (Calls.loadGlobal_global (by rw[I.ok.glob];exact I.mod.glob.keeps I.bk) hm h) hd
theorem hV {E:QV}{ag:AO}{s:Shared}{σ:St}{H:Hp}{x:Str}{u:Value}{G:Pos}{Q:QV}(I:Inv X ag σ H s)(M:Gl X x)(hm:X.mg x=none)(hv:bootBuiltins x=some u)(h:Q u s)
  (hn:x ≠ "__name__":=by decide) (hd:(x == ("__debug__" : Str))=false:=by decide):wq X (eval (.Name x G) X.env) Q E s:=by
 obtain⟨mb,h1,h2⟩:=I.mod.blt;exact Calls.Name_function_global I.ok.kind M (Calls.loadGlobal_builtin (by rw[I.ok.glob];exact I.mod.glob.keeps I.bk) hm (by rw[I.ok.blt];exact h1.keeps I.bk) ((h2 x hn).trans hv) h) hd
theorem qP (G:Gl X x)(hm:X.mg x=some u)(r:aX v u)(hd:(x == ("__debug__" : Str))=false:=by decide):PE X (.Name x M) (tC v) :=
 λ_ _ _ H _ I h=>xO I G hm ⟨v,H,I,r,h⟩ hd
theorem Km (G:Gl X x)(hm:X.mg x=none)(hv:bootBuiltins x=some u)(r:aX v u)(hn:x ≠ "__name__":=by decide)(hd:(x == ("__debug__" : Str))=false:=by decide):PE X (.Name x M) (tC v) :=
 λ_ _ _ H _ I h=>hV I G hm hv ⟨v,H,I,r,h⟩ hn hd
def X2 (ta tb:TE)(k:Int->Int->Hp->Prop):St->Hp->Prop:=λσ H=>ta σ H λx G=>tb σ G λy H2=>∃i j,x=.int i/\y=.int j/\k i j H2
variable {a b:Expr}{ta tb:TE}{pos:Pos}
def PC (X:Cx)(op:CmpOp)(a b:Expr)(t:TE):Prop :=
 ∀(ag:AO)(s:Shared)(σ:St)(H:Hp)(Q:VK),Inv X ag σ H s->t σ H Q ->
  wq X (eval a X.env) (λv G=>wq X (eval b X.env) (λu M=>wq X (compareOp op v u) (EP X ag σ Q) X.xe M) X.xe G) X.xe s
theorem lh (b:Expr){op:CmpOp}(h:op≠.In)(h2:op≠.NotIn):behindInMarks op b=false:=by
 have G:(op == CmpOp.In)=false:=by simp_all
 have e2:(op == CmpOp.NotIn)=false:=by simp_all
 cases b<;>simp[behindInMarks,G,e2]
def TM (p:Int->Int->Bool)(ta tb:TE):TE:=λσ H Q=>X2 ta tb (λi j H2=>Q (.bl (p i j)) H2) σ H
abbrev Th:TE->TE->TE:=TM λi j=>decide (i<j)
def tB (t:TE):TT:=λσ H Q=>t σ H λx G=>∃c,x=.bl c/\Q c G
theorem N6 (h:PC X op a b t)(h1:behindInMarks op b=false:=by first|exact lh _ V9 V9|rfl):PE X (.Compare a [op] [b] pos) t:=λag s σ H Q I hw=>wpAny_Compare1 (h ag s σ H Q I hw) h1
theorem N7 {e:Expr}{t:TE}(h:PE X e t)(he:∀G,isTrue e X.env G=(do let v <-G;standAt e.pos;holding [v] (truthy v)):=by intro _;rfl):PT X e (tB t):=by
 intro ag s σ H Q I hw;refine isTrue_plain (c7 (h ag s σ H _ I hw) λv s1 ⟨x,M,O,T,U⟩=>?_) (he _);obtain⟨d,rfl,q⟩:=U;cases T
 exact wpAny_truthy_bool ⟨M,O,q⟩
variable {tA Tz:TT}{ay:QD}
def Q0 (t u:TT):TT:=λσ H Q=>t σ H λc G=>if c=true then u σ G Q else Q false G
def VN (t u:TT):TT:=λσ H Q=>t σ H λc G=>if c=true then Q true G else u σ G Q
def Q1 (t:TT):TT:=λσ H Q=>t σ H λc G=>Q (!c) G
theorem Kn (ha:PT X a tA):PW X (.BoolOp .And [a] pos) tA:=by
 intro G ag s σ H Q I h;refine isTrue_and (c7 (ha ag s σ H Q I h) λc s1 e=>?_);cases c with
 |true=>exact isTrue_and_nil e
 |false=>exact e
theorem NA (ha:PT X a tA):PW X (.BoolOp .Or [a] pos) tA:=by
 intro G ag s σ H Q I h;refine isTrue_or (c7 (ha ag s σ H Q I h) λc s1 e=>?_);cases c with
 |false=>exact isTrue_or_nil e
 |true=>exact e
theorem NB (ha:PT X a tA)(hb:PW X (.BoolOp .And (b::ay) pos) Tz):PW X (.BoolOp .And (a::b::ay) pos) (Q0 tA Tz):=by
 intro T ag s σ H Q I h;refine isTrue_and (c7 (ha ag s σ H _ I h) λc s1 ⟨G,M,O⟩=>?_);cases c with
 |true=>exact hb T ag s1 σ G Q M O
 |false=>exact⟨G,M,O⟩
theorem Q2 (ha:PT X a tA)(hb:PW X (.BoolOp .Or (b::ay) pos) Tz):PW X (.BoolOp .Or (a::b::ay) pos) (VN tA Tz):=by
 intro T ag s σ H Q I h;refine isTrue_or (c7 (ha ag s σ H _ I h) λc s1 ⟨G,M,O⟩=>?_);cases c with
 |true=>exact⟨G,M,O⟩
 |false=>exact hb T ag s1 σ G Q M O
theorem NC (ha:PT X a tA):PT X (.UnaryOp .Not a pos) (Q1 tA):=by
 intro ag s σ H Q I h;exact isTrue_not (ha ag s σ H (λc G=>Q (!c) G) I h)
def Q3 (ta tb:TE):TE:=λσ H Q=>ta σ H λx G=>∃c,x=.bl c/\if c=true then tb σ G Q else Q (.bl false) G
def TQ (ta tb:TE):TE:=λσ H Q=>ta σ H λx G=>∃c,x=.bl c/\if c=true then Q (.bl true) G else tb σ G Q
def Q4 (ta:TE):TE:=λσ H Q=>ta σ H λx G=>∃c,x=.bl c/\Q (.bl (!c)) G
theorem ND {op}(h:PE X a t):PE X (.BoolOp op [a] pos) t:=λag s σ H Q I hw=>BoolOp_one (h ag s σ H Q I hw)
theorem NE (ha:PE X a ta)(hb:PE X (.BoolOp .And (b::ay) pos) tb):PE X (.BoolOp .And (a::b::ay) pos) (Q3 ta tb):=by
 intro ag s σ H Q I h;refine BoolOp_and (c7 (ha ag s σ H _ I h) λv s1 ⟨x,M,O,T,G⟩=>?_);obtain⟨c,rfl,G⟩:=G;cases T
 refine wpAny_truthy_bool ?_;cases c with
 |true=>exact hb ag s1 σ M Q O G
 |false=>exact⟨.bl false,M,O,rfl,G⟩
theorem Q5 (ha:PE X a ta)(hb:PE X (.BoolOp .Or (b::ay) pos) tb):PE X (.BoolOp .Or (a::b::ay) pos) (TQ ta tb):=by
 intro ag s σ H Q I h;refine BoolOp_or (c7 (ha ag s σ H _ I h) λv s1 ⟨x,M,O,T,G⟩=>?_);obtain⟨c,rfl,G⟩:=G;cases T
 refine wpAny_truthy_bool ?_;cases c with
 |false=>exact hb ag s1 σ M Q O G
 |true=>exact⟨.bl true,M,O,rfl,G⟩
theorem NF (ha:PE X a ta):PE X (.UnaryOp .Not a pos) (Q4 ta):=by
 intro ag s σ H Q I h;refine UnaryOp_ (c7 (ha ag s σ H _ I h) λv s1 ⟨x,M,O,T,G⟩=>?_);obtain⟨c,rfl,G⟩:=G;cases T
 exact not_of (wpAny_truthy_bool ⟨.bl (!c),M,O,rfl,G⟩)
end
def ii (K:Frag)(H:Hp)(a:Addr)(xs:List V):Prop :=
 Rd H a (.lst xs) \/
  ∃(o:Obj)(its:AV)(n:Nat),K.lookup a=some o/\o.cls=.type "list"/\o.dict=none/\o.data=.seq its n/\its.size<=sizeLine/\bg xs its.toList
def jw (K:Frag)(H:Hp)(a:Addr)(xs:List V):Prop :=
 Rd H a (.tup xs) \/
  ∃(o:Obj)(its:AV)(n:Nat),K.lookup a=some o/\o.cls=.type "tuple"/\o.data=.seq its n/\its.size<=sizeLine/\bg xs its.toList
noncomputable def TR:Value->Option V
 |.none=>some .non
 |.bool b=>some (.bl b)
 |.int i _=>some (.int i)
 |.str x _=>some (.str x)
 |.bytes b _=>some (.byt b)
 |.float b _=>some (.flt b)
 |.ref a=>some (.ref a)
 |.type n=>some (.ty n)
 |_=>none
theorem aX.abs (r:aX x u):TR u=some x:=by
 cases x with
 |non=>cases r;rfl
 |bl _=>cases r;rfl
 |int _=>obtain⟨t,rfl⟩:=r;rfl
 |str _=>obtain⟨t,rfl⟩:=r;rfl
 |byt _=>obtain⟨t,rfl⟩:=r;rfl
 |flt _=>obtain⟨t,rfl⟩:=r;rfl
 |ref _=>cases r;rfl
 |ty _=>cases r;rfl
theorem aX.inj (r:aX x u)(q:aX y u):x=y:=vK (r.abs.symm.trans q.abs)
theorem bg.inj:∀ {xs ys:List V}{us:LU},bg xs us->bg ys us->xs=ys
 |_,_,_,.nil,.nil=>rfl
 |_,_,_,.cons r t,.cons G t'=>by rw[r.inj G,bg.inj t t']
section
variable {X:Cx}{ag:AO}{σ:St}{H:Hp}{s:Shared}{a:Addr}{xs ys:List V}
theorem ii.of {K:Frag}(h:H a=some (.lst xs)):ii K H a xs:=.inl (.inl h)
theorem jw.of {K:Frag}(h:H a=some (.tup xs)):jw K H a xs:=.inl (.inl h)
theorem Inv.list (I:Inv X ag σ H s)(h:ii X.K H a xs):∃its:LU,bg xs its/\PlainL s.heap a its.toArray/\xs.length<=sizeLine:=by
 rcases h with h|⟨o,its,n,hk,hc,hd,hs,hz,r⟩
 .obtain⟨z,its,n,r,e⟩:=h.ok I.hok;exact⟨its,r,⟨_,n,e,rfl,rfl,rfl⟩,z⟩
 .refine⟨its.toList,r,⟨o,n,I.kIn a o hk,hc,hd,by simpa using hs⟩,?_⟩;have e:=r.length;simp_all
theorem Inv.tuple (I:Inv X ag σ H s)(h:jw X.K H a xs):∃its:LU,bg xs its/\IsTup s.heap a its.toArray/\xs.length<=sizeLine:=by
 rcases h with h|⟨o,its,n,hk,hc,hs,hz,r⟩
 .obtain⟨z,its,r,p⟩:=h.ok I.hok;exact⟨its,r,p,z⟩
 .refine⟨its.toList,r,⟨o,I.kIn a o hk,hc,n,by simpa using hs⟩,?_⟩;have e:=r.length;simp_all
theorem Inv.list_inj (I:Inv X ag σ H s)(h:ii X.K H a xs)(h':ii X.K H a ys):xs=ys:=by
 obtain⟨its,r,⟨o,n,e,_,_,d⟩,_⟩:=I.list h;obtain⟨its',M,⟨o',O,G,_,_,d'⟩,_⟩:=I.list h';rw[e]at G;cases G;rw[d]at d';injection d' with d1 _;have:its=its':=by simp_all
 subst this;exact r.inj M
theorem Inv.tuple_inj (I:Inv X ag σ H s)(h:jw X.K H a xs)(h':jw X.K H a ys):xs=ys:=by
 obtain⟨its,r,⟨o,e,_,n,d⟩,_⟩:=I.tuple h;obtain⟨its',M,⟨o',G,_,O,d'⟩,_⟩:=I.tuple h';rw[e]at G;cases G;rw[d]at d';injection d' with d1 _;have:its=its':=by simp_all
 subst this;exact r.inj M
end
noncomputable abbrev Cx.wish (X:Cx)(E:QV):Cx:={ X with xe:=E }
noncomputable abbrev Cx.nox (X:Cx):Cx:=X.wish λ_ _=>False
theorem Cx.Ok.wish {X:Cx}(ok:X.Ok)(E:QV):(X.wish E).Ok :=
 ⟨ok.mod,ok.kind,ok.glob,ok.blt,ok.above,ok.inj,ok.has,ok.cab,ok.hd,ok.frames,ok.stk,ok.exf,ok.bs,ok.bsz,ok.noex,ok.exfs,ok.funs,ok.frf⟩
theorem Cx.Ok.unwish {X:Cx}{E:QV}(ok:(X.wish E).Ok):X.Ok :=
 ⟨ok.mod,ok.kind,ok.glob,ok.blt,ok.above,ok.inj,ok.has,ok.cab,ok.hd,ok.frames,ok.stk,ok.exf,ok.bs,ok.bsz,ok.noex,ok.exfs,ok.funs,ok.frf⟩
section
variable {X:Cx}{ag:AO}{σ:St}{H:Hp}{s:Shared}{E:QV}
theorem Inv.wish (I:Inv X ag σ H s)(E:QV):Inv (X.wish E) ag σ H s:=⟨I.ok.wish E,I.os,I.bare,I.base,I.loc,I.cell,I.free,I.freeC,I.pin,I.hok,I.len⟩
theorem Inv.unwish (I:Inv (X.wish E) ag σ H s):Inv X ag σ H s:=⟨I.ok.unwish,I.os,I.bare,I.base,I.loc,I.cell,I.free,I.freeC,I.pin,I.hok,I.len⟩
theorem SP.unwish (h:SP (X.wish E) ag D f s'):SP X ag D f s':=by
 cases f with
 |next=>obtain⟨G,H',I,q⟩:=h;exact⟨G,H',I.unwish,q⟩
 |brk=>obtain⟨G,H',I,q⟩:=h;exact⟨G,H',I.unwish,q⟩
 |cont=>obtain⟨G,H',I,q⟩:=h;exact⟨G,H',I.unwish,q⟩
 |ret u=>obtain⟨v,G,H',I,r,q⟩:=h;exact⟨v,G,H',I.unwish,r,q⟩
theorem PE.nox (h:PE X.nox e t):PE X e t:=λag s σ H Q I hw=>
 wpAny_mono (h ag s σ H Q (I.wish _) hw) (λ_ _ ⟨v,H',G,r,q⟩=>⟨v,H',G.unwish,r,q⟩) λ_ _ z=>False.elim z
theorem PT.nox (h:PT X.nox e t):PT X e t:=λag s σ H Q I hw=>
 wpAny_mono (h ag s σ H Q (I.wish _) hw) (λ_ _ ⟨H',G,q⟩=>⟨H',G.unwish,q⟩) λ_ _ z=>False.elim z
theorem uR.nox {st:List Stmt}{t:TS}(h:uR X.nox st t):uR X st t:=λag s σ H D I hw=>
 wpAny_mono (h ag s σ H D (I.wish _) hw) (λ_ _ q=>q.unwish) λ_ _ z=>False.elim z
end
section
variable {X:Cx}{st:Stmt}{ay:List Stmt}{t u:TS}{e:Expr}{te:TE}{pos:Pos}
def M6:TS:=λD σ H=>D.nx σ H
def Q6 (t u:TS):TS:=λD σ H=>t { D with nx:=u D } σ H
theorem Ko:uR X [] M6:=λ_ _ σ H _ I h=>wpAny_execs_nil ⟨σ,H,I,h⟩
theorem Gz (h1:PS X st t)(h2:uR X ay u):uR X (st::ay) (Q6 t u):=by
 intro ag s σ H D I h;refine wpAny_execs_cons (c7 (h1 ag s σ H { D with nx:=u D } I h) λf s1 q=>?_);cases f with
 |next=>
  obtain⟨G,H',M,q⟩:=q;exact h2 ag s1 G H' D M q
 |ret v=>exact q
 |brk=>exact q
 |cont=>exact q
theorem Kp (h1:PS X st t):uR X [st] t:=by
 intro ag s σ H D I h;refine wpAny_execs_cons (c7 (h1 ag s σ H D I h) λf s1 q=>?_);cases f with
 |next=>exact wpAny_execs_nil q
 |ret v=>exact q
 |brk=>exact q
 |cont=>exact q
def Q7:TS:=λD σ H=>D.ct σ H
theorem zp:PS X (.Continue pos) Q7:=λ_ _ σ H _ I h=>wpAny_Continue ⟨σ,H,I,h⟩
theorem Inv.quiet (I:Inv X ag σ H s):interactive X.env=false:=by simp[interactive,I.ok.kind]
def Q8 (te:TE):TS:=λD σ H=>te σ H λ_ G=>D.nx σ G
theorem CT (he:PE X e te)(hs:swapsWith e none pos.line X.env=pure false:=by rfl):PS X (.Expr e pos) (Q8 te):=by
 intro ag s σ H D I h;exact wpAny_Expr_any (c7 (he ag s σ H _ I h) λv s1 ⟨x,G,M,T,O⟩=>⟨σ,G,M,O⟩) I.quiet hs
def NG (te:TE):TS:=λD σ H=>te σ H D.rt
theorem G0 (he:PE X e te):PS X (.Return (some e) pos) (NG te):=by
 intro ag s σ H D I h;exact wpAny_Return_some (c7 (he ag s σ H _ I h) λv s1 ⟨x,G,M,O,T⟩=>⟨x,σ,G,M,O,T⟩)
def Q9 (c:TT)(t u:TS):TS:=λD σ H=>c σ H λb G=>if b=true then t D σ G else u D σ G
theorem QA {c:Expr}{a b:List Stmt}{G:TT}(hc:PT X c G)(ha:uR X a t)(hb:uR X b u):PS X (.If c a b pos) (Q9 G t u):=by
 intro ag s σ H D I h;refine wpAny_If (c7 (hc ag s σ H _ I h) λd s1 ⟨M,O,T⟩=>?_);cases d with
 |true=>exact ha ag s1 σ M D O T
 |false=>exact hb ag s1 σ M D O T
end
abbrev TG:=V->St->Hp->(St->Hp->Prop)->Prop
abbrev NH:=List V->St->Hp->(St->Hp->Prop)->Prop
def PG (X:Cx)(G:Expr)(t:TG):Prop :=
 ∀(ag:AO)(s:Shared)(σ:St)(H:Hp)(v:V)(u:Value)(Q:St->Hp->Prop),Inv X ag σ H s->aX v u->t v σ H Q ->
  wq X (assign G X.env u) (λ_ s'=>∃M H',Inv X ag M H' s'/\Q M H') X.xe s
def Ti (X:Cx)(M:QD)(t:NH):Prop :=
 ∀(ag:AO)(s:Shared)(σ:St)(H:Hp)(vs:List V)(us:LU)(Q:St->Hp->Prop),Inv X ag σ H s->bg vs us->t vs σ H Q ->
  wq X (assignInOrder ((assignEach M X.env).map (·.2)) us) (λ_ s'=>∃G H',Inv X ag G H' s'/\Q G H') X.xe s
abbrev NI:=V->V->V->Hp->(Hp->Prop)->Prop
def QB (X:Cx)(t:NI):Prop :=
 ∀(ag:AO)(s:Shared)(σ:St)(H:Hp)(o i v:V)(G iv u:Value)(Q:Hp->Prop),Inv X ag σ H s->aX o G->aX i iv->aX v u->t o i v H Q ->
  wq X (setItem G iv u) (λ_ s'=>∃H',Inv X ag σ H' s'/\Q H') X.xe s
section
variable {X:Cx}{pos:Pos}
def lm (i:Nat):TG:=λv σ H Q=>Q (σ.set i (some v)) H
theorem CU (G:X.N.Nodup)(hi:X.N[i]? = some x)(hx:Kb X.env.scope x)(hf:X.fn x=true\/X.env.scope.names.lookup x=some .local:=by first|exact .inl rfl|exact .inr rfl|assumption):PG X (.Name x pos) (lm i):=by
 intro ag s σ H v u Q I r h;exact wpAny_assign_Name (zo I G hi hx r (λs' M=>⟨_,H,M,h⟩) hf)
def QC:NH:=λvs σ H Q=>vs=[]/\Q σ H
def M7 (t:TG)(u:NH):NH:=λvs σ H Q=>∃v r,vs=v::r/\t v σ H λG H'=>u r G H' Q
theorem nG:Ti X [] QC:=by
 intro ag s σ H vs us Q I r h;obtain⟨e,h⟩:=h;subst e;cases r
 exact assignInOrder_nil ⟨σ,H,I,h⟩
theorem fw {e:Expr}{es:QD}{t:TG}{u:NH}(h1:PG X e t)(h2:Ti X es u)
  (hs:(assignEach (e::es) X.env).map (·.2)=assign e X.env::(assignEach es X.env).map (·.2):=by rfl):Ti X (e::es) (M7 t u):=by
 intro ag s σ H vs us Q I r h;obtain⟨v,b,M,h⟩:=h;subst M;cases r with
 |cons r O=>
  rw[hs];refine assignInOrder_cons (c7 (h1 ag s σ H _ _ _ I r h) λ_ s1 ⟨G,T,U,a⟩=>?_);exact h2 ag s1 G T _ _ Q U O a
def NJ (K:Frag)(n:Nat)(t:NH):TG:=λv σ H Q=>∃a xs,v=.ref a/\jw K H a xs/\xs.length=n/\t xs σ H Q
theorem ri (hc:X.calm=true)(h:Ti X es t)
  (hn:(assignEach es X.env).length=n:=by rfl) (G:(assignEach es X.env).findIdx? (·.1)=none:=by rfl):PG X (.Tuple es k pos) (NJ X.K n t):=by
 intro ag s σ H v u Q I r hw;obtain⟨a,xs,O,hq,hl,hw⟩:=hw;subst O;cases r
 obtain⟨its,M,T,hz⟩:=I.tuple hq;refine assign_Tuple_tuple (I.ok.hd hc) T (by simp[hn,<-hl,M.length]) G λh' hx=>?_;have U:Inv X ag σ H { s with heap:=h' }:=I.kept (t':=s.toks) λb o e=>hx b o (vS (vX e)) e;exact h ag _ σ H xs _ Q U (by simpa using M) hw
def TU (to ti:TE)(t:NI):TG:=λv σ H Q=>to σ H λo G=>ti σ G λi H2=>t o i v H2 λM=>Q σ M
theorem NK {o i:Expr}{to ti:TE}{t:NI}(M:PE X o to)(hi:PE X i ti)(hs:QB X t)
  (ha:∀v,assign (.Subscript o i pos) X.env v=(do
   let G <-holding [v] (eval o X.env)
   let iv <-holding [v,G] (eval i X.env)
   standAt pos
   holding [v,G,iv] (setItem G iv v)
   release [v,G,iv] []):=by intro _;rfl):PG X (.Subscript o i pos) (TU to ti t):=by
 intro ag s σ H v u Q I r h;rw[ha];refine wX (wpAny_holding (c7 (M ag s σ H _ I h) λG s1 ⟨x,O,T,U,a⟩=>?_));refine wX (wpAny_holding (c7 (hi ag s1 σ O _ T a) λiv s2 ⟨y,H2,b,c,d⟩=>?_));refine wX (wpAny_standAt (wX (wpAny_holding (c7 (hs ag s2 σ H2 x y v G iv u _ b U c r d) λ_ j ⟨e,f,g⟩=>?_))));exact wpAny_release ⟨σ,e,f,g⟩
def EG (G:TE)(g:TG):TS:=λD σ H=>G σ H λx M=>g x σ M D.nx
theorem NL {tg e:Expr}{G:TE}{g:TG}(he:PE X e G)(M:PG X tg g)(hs:swapsWithSole [tg] e pos.line X.env=pure false:=by rfl)(hw:swappedStores [tg] e X.env=pure none:=by rfl)
  (h1:(assignEach [tg] X.env).map (·.2)=[assign tg X.env]:=by rfl):PS X (.Assign [tg] e pos) (EG G g):=by
 intro ag s σ H D I h;refine wpAny_Assign_stores (c7 (he ag s σ H _ I h) λv s1 ⟨x,O,T,U,a⟩=>?_) hs hw;rw[h1];exact c7 (M ag s1 σ O x v _ T U a) λ_ s2 q=>q
theorem xP {i:Nat}{x:Str}{e:Expr}{M:TE}{G:Pos}(O:X.N.Nodup)(hi:X.N[i]? = some x)(hx:Kb X.env.scope x)(he:PE X e M)(hs:swapsWith e (some (.Name x G)) pos.line X.env=pure false:=by rfl)(hf:X.fn x=true\/X.env.scope.names.lookup x=some .local:=by first|exact .inl rfl|exact .inr rfl|assumption):
  PS X (.Assign [.Name x G] e pos) (EG M (lm i)):=by
 intro ag s σ H D I h;refine wpAny_Assign_Name (c7 (he ag s σ H _ I h) λv s1 ⟨y,T,U,a,b⟩=>?_) hs;exact zo U O hi hx a (λs2 c=>⟨_,T,c,b⟩) hf
end
section
variable {X:Cx}{pos:Pos}
def G1 (c:TT)(tb:TS):TS:=λD σ H=>∃W:Nat->St->Hp->Prop,(∃m,W m σ H)/\∀m σ H,W m σ H ->
 c σ H λb M=>if b=true then ∃N:St->Hp->Prop,(∀G H',N G H'->∃O,O<m/\W O G H')/\tb { D with nx:=N,ct:=N,bk:=D.nx } σ M else D.nx σ M
theorem G2 {c:Expr}{O:List Stmt}{k:TT}{tb:TS}(hp:PassesOwn (model X.prog X.w) X.A X.env X.xe)(hc:PT X c k)(hb:uR X O tb):PS X (.While c O [] pos) (G1 k tb):=by
 intro ag s σ H D I h;obtain⟨W,⟨p,q⟩,T⟩:=h;refine wpAny_While (codeAny_whileLoop (λn s'=>∃U H',Inv X ag U H' s'/\W n U H') ?_ p ⟨σ,H,I,q⟩);rintro n s1 ⟨M,l,r,t⟩;refine wpAny_passesOwn hp (c7 (hc ag s1 M l _ r (T n M l t)) λb s2 ⟨H2,m,d⟩=>?_);cases b with
 |true=>
  obtain⟨N,o,d⟩:=d;rw[if_pos rfl];refine wpAny_passesOwn hp (c7 (hb ag s2 M H2 _ m d) λf u e=>?_);cases f with
  |next=>
   obtain⟨G,a,g,n3⟩:=e;obtain⟨i,hm,j⟩:=o G a n3;exact⟨i,hm,G,a,g,j⟩
  |cont=>
   obtain⟨G,a,g,n3⟩:=e;obtain⟨i,hm,j⟩:=o G a n3;exact⟨i,hm,G,a,g,j⟩
  |brk=>exact e
  |ret v=>exact e
 |false=>
  rw[if_neg uX];exact wpAny_execs_nil ⟨M,H2,m,d⟩
end
structure It where
 go:Nat->Hp->Prop
 yld:Nat->Hp->V->Hp->Prop
 stop:Nat->Hp->Prop
def mO (X:Cx)(ag:AO)(H:Hp)(b:Addr):Prop :=
 H b=none/\b≠X.env.locals/\b∉X.fs/\(b∈X.ex\/X.s₀.heap.objs.size<=b)/\(∀x c,X.env.cells.lookup x=some c->c≠b)/\∀p∈X.pn++ag,p.1≠b
theorem Inv.fpOk (I:Inv X ag σ H s)(hb:s.heap.objs.size<=b)(hn:H' b=none):mO X ag H' b:=by
 refine⟨hn,ne_of_gt (vQ I.lt hb),I.nofs hb,.inr (vR I.sz hb),λx c e z=>?_,λp hp z=>?_⟩
 .obtain⟨v,q⟩:=I.cell x c e;exact absurd (vQ q.lt (by rw[z];exact hb)) (Nat.lt_irrefl _)
 .exact absurd (vQ (vX (I.pin p hp).1) (by rw[z];exact hb)) (Nat.lt_irrefl _)
structure Turn (P:Program)(w:World)(K:Frag)(tg:Expr)(J:It)(fp:List Addr)(it:Addr)(tn:Nat->Heap->Prop):Prop where
 mem:it∈fp
 obj:∀i h,tn i h->∀b∈fp,∃o,h.get? b=some o/\∀v,o.data≠.cell v
 keep:∀i h h',tn i h->(∀b∈fp,∀o,h.get? b=some o->h'.get? b=some o)->tn i h'
 item:∀(X:Cx),X.prog=P->X.w=w->X.K=K->X.calm=true->∀(i:Nat)(ag:List (Addr×Obj))(s:Shared)(σ:St)(H:Hp)(E:Value->Shared->Prop),Inv X ag σ H s->(∀b∈fp,mO X ag H b)->tn i s.heap->J.go i H ->
  wpAny (model P w) X.A (pyNext (.ref it)) (λr s1=>∃u,r=some u /\
   wpAny (model P w) X.A (letOwnedTupleGo tg (.ref it) u) (λ_ s2=>∃x H',Inv X ag σ H' s2/\aX x u/\J.yld i H x H'/\tn (i+1) s2.heap/\∀b∈fp,H' b=none) E s1) E s
 done:∀(X:Cx),X.prog=P->X.w=w->X.K=K->X.calm=true->∀(i:Nat)(ag:List (Addr×Obj))(s:Shared)(σ:St)(H:Hp)(E:Value->Shared->Prop),Inv X ag σ H s->(∀b∈fp,mO X ag H b)->tn i s.heap->J.stop i H ->
  wpAny (model P w) X.A (pyNext (.ref it)) (λr s1=>r=none/\Inv X ag σ H s1) E s
 self:∀(A:Around)(i:Nat)(s:Shared)(Q:Value->Shared->Prop)(E:Value->Shared->Prop),tn i s.heap->Q (.ref it) s->wpAny (model P w) A (pyIter (.ref it)) Q E s
abbrev TI:=St->Hp->(It->Hp->Prop)->Prop
def VO (X:Cx)(ag:AO)(σ:St)(tg:Expr)(R:It->Hp->Prop)(G:Value)(s2:Shared):Prop :=
 ∃(it:Addr)(fp:List Addr)(tn:Nat->Heap->Prop)(J:It)(H':Hp),G=.ref it/\Inv X ag σ H' s2/\Turn X.prog X.w X.K tg J fp it tn/\tn 0 s2.heap/\(∀b∈fp,mO X ag H' b)/\R J H'
def PI (X:Cx)(tg G:Expr)(M:TI):Prop :=
 ∀(ag:AO)(s:Shared)(σ:St)(H:Hp)(R:It->Hp->Prop),Inv X ag σ H s->M σ H R ->
  wq X (eval G X.env) (λv s1=>wq X (pyIter v) (VO X ag σ tg R) X.xe s1) X.xe s
theorem v0 (O:s.heap.get? it=some o)(hc:o.cls=.type n)(hd:o.data=.fields vs)
    (hn:["enumerate","zip","dict_itemiterator","dict_reverseitemiterator","odict_iterator","itertools.zip_longest","itertools.pairwise"].contains n=false) (G:Q () s):wpAny M A (letOwnedTupleGo tg (.ref it) u) Q E s:=by
  unfold letOwnedTupleGo;cases tg<;>first
    |exact wY G
    | (cases u<;>first
        |exact wY G
        | (refine wX (wpAny_load O ?_)
           rw[hc,hd]
           show wpAny M A (if(["enumerate","zip","dict_itemiterator","dict_reverseitemiterator","odict_iterator","itertools.zip_longest","itertools.pairwise"].contains n && vs[0]? == some (rawInt _))=true then _ else _) Q E s
           rw[if_neg (by intro h;rw[hn,Bool.false_and]at h;cases h)]
           exact wY G))
noncomputable def VP (K:Frag)(a:Addr):It :=
 ⟨λi H=>∃xs x,ii K H a xs/\xs[i]? = some x,λi H x H'=>H'=H/\∀xs,ii K H a xs->xs[i]? = some x,λi H=>∃xs,ii K H a xs/\xs.length<=i⟩
noncomputable def VQ (K:Frag)(a:Addr):It :=
 ⟨λi H=>∃xs x,jw K H a xs/\xs[i]? = some x,λi H x H'=>H'=H/\∀xs,jw K H a xs->xs[i]? = some x,λi H=>∃xs,jw K H a xs/\xs.length<=i⟩
noncomputable def Tj (lo:Int)(n:Nat):It:=⟨λi _=>i<n,λi H x H'=>H'=H/\x=.int (lo+i),λi _=>n<=i⟩
theorem EH {P:Program}{w:World}{K:Frag}{tg:Expr}(a it:Addr):Turn P w K tg (VP K a) [it] it (λi h=>h.IsListIter it a i) where
 mem:=N9
 obj:=λi h st b hb=>by
  have e:b=it:=by simpa using hb
  subst e;obtain⟨o,e,c,d⟩:=st;simp_all
 keep:=λi h h' st k=>st.at λo e=>k it N9 o e
 item:=by
  intro X M hw O hc i ag s σ H E I hf st T;subst M hw O;obtain⟨xs,x,hq,hx⟩:=T;obtain⟨its,U,p,hz⟩:=I.list hq;obtain⟨u,hu,ru⟩:=U.get hx;obtain⟨f0,f1,f2,f3,f4,f5⟩:=hf it N9;refine wpAny_pyNext_list_item st p.isList (x:=u) (by simpa using hu) λh' G f=>?_;have g:Inv X ag σ H { s with heap:=h' }:=I.turned (t':=s.toks) (λb o hb e=>(f.2 b hb).trans e) f0 f1 f3 f4 f5;obtain⟨o,e,c,d⟩:=id G;exact⟨u,rfl,v0 (s:={ s with heap:=h' }) e c d V9 ⟨x,H,g,ru,⟨rfl,λys hy=>by rw[I.list_inj hy hq];exact hx⟩,G,λb hb=>(hf b hb).1⟩⟩
 done:=by
  intro X M hw O hc i ag s σ H E I hf st T;subst M hw O;obtain⟨xs,hq,hx⟩:=T;obtain⟨its,U,p,hz⟩:=I.list hq;obtain⟨f0,f1,f2,f3,f4,f5⟩:=hf it N9;have hl:=U.length;exact wpAny_pyNext_list_end (I.ok.hd hc) st p.isList S9 λh' j=>⟨rfl,I.turned (t':=s.toks) (λb o hb e=>j b o hb e) f0 f1 f3 f4 f5⟩
 self:=λ_ _ _ _ _ st h=>wpAny_pyIter_listiter st h
theorem BA {P:Program}{w:World}{K:Frag}{tg:Expr}(a it:Addr):Turn P w K tg (VQ K a) [it] it (λi h=>h.IsTupleIter it a i) where
 mem:=N9
 obj:=λi h st b hb=>by
  have e:b=it:=by simpa using hb
  subst e;obtain⟨o,e,c,d⟩:=st;simp_all
 keep:=λi h h' st k=>st.at λo e=>k it N9 o e
 item:=by
  intro X M hw O hc i ag s σ H E I hf st T;subst M hw O;obtain⟨xs,x,hq,hx⟩:=T;obtain⟨its,U,p,hz⟩:=I.tuple hq;obtain⟨u,hu,ru⟩:=U.get hx;obtain⟨f0,f1,f2,f3,f4,f5⟩:=hf it N9;refine wpAny_pyNext_tuple_item st (show s.heap.IsTuple a its.toArray from p) (x:=u) (by simpa using hu) λh' G f=>?_;have g:Inv X ag σ H { s with heap:=h' }:=I.turned (t':=s.toks) (λb o hb e=>(f.2 b hb).trans e) f0 f1 f3 f4 f5;obtain⟨o,e,c,d⟩:=id G;exact⟨u,rfl,v0 (s:={ s with heap:=h' }) e c d V9 ⟨x,H,g,ru,⟨rfl,λys hy=>by rw[I.tuple_inj hy hq];exact hx⟩,G,λb hb=>(hf b hb).1⟩⟩
 done:=by
  intro X M hw O hc i ag s σ H E I hf st T;subst M hw O;obtain⟨xs,hq,hx⟩:=T;obtain⟨its,U,p,hz⟩:=I.tuple hq;obtain⟨f0,f1,f2,f3,f4,f5⟩:=hf it N9;have hl:=U.length;exact wpAny_pyNext_tuple_end (I.ok.hd hc) st (show s.heap.IsTuple a its.toArray from p) S9 λh' j=>⟨rfl,I.turned (t':=s.toks) (λb o hb e=>j b o hb e) f0 f1 f3 f4 f5⟩
 self:=λ_ _ _ _ _ st h=>wpAny_pyIter_tupleiter st h
theorem BB {P:Program}{w:World}{K:Frag}{tg:Expr}(it:Addr)(lo:Int)(n:Nat):Turn P w K tg (Tj lo n) [it] it (λi h=>IsRangeIter h it (lo+(i:Nat)*1) ((n:Int) - (i:Nat)) 1) where
 mem:=N9
 obj:=λi h st b hb=>by
  simp_all
 keep:=λi h h' st k=>k it N9 _ st
 item:=by
  intro X M hw O hc i ag s σ H E I hf st T;subst M hw O;obtain⟨f0,f1,f2,f3,f4,f5⟩:=hf it N9;have W:=Walks.range (prog:=X.prog) (w:=X.w) (I.ok.hd hc) it lo 1 n;refine W.item i s _ _ T st λv h' tk hv G U=>?_;obtain⟨t,rfl⟩:=hv;have a:Inv X ag σ H { s with heap:=h',toks:=tk }:=I.turned (λb o hb e=>U b o (by simpa using hb) e) f0 f1 f3 f4 f5;refine⟨_,rfl,v0 (s:={ s with heap:=h',toks:=tk }) (n:="range_iterator") G rfl rfl V9 ⟨.int (lo+i),H,a,⟨t,?_⟩,⟨rfl,rfl⟩,G,λb hb=>(hf b hb).1⟩⟩;simp
 done:=by
  intro X M hw O hc i ag s σ H E I hf st T;subst M hw O;obtain⟨f0,f1,f2,f3,f4,f5⟩:=hf it N9;exact wpAny_pyNext_range_end (I.ok.hd hc) st (by have:n<=i:=T;lia) λh' c=>⟨rfl,I.turned (t':=s.toks) (λb o hb e=>c b o hb e) f0 f1 f3 f4 f5⟩
 self:=λ_ _ _ _ _ st h=>wpAny_pyIter_rangeiter st h
section
variable {X:Cx}{tg:Expr}
def QE (K:Frag)(tl:TE):TI:=λσ H R=>tl σ H λx G=>∃a,x=.ref a/\(∃xs,ii K G a xs)/\R (VP K a) G
def TV (K:Frag)(tl:TE):TI:=λσ H R=>tl σ H λx G=>∃a,x=.ref a/\(∃xs,jw K G a xs)/\R (VQ K a) G
theorem Kq {l:Expr}{tl:TE}(hl:PE X l tl):PI X tg l (QE X.K tl):=by
 intro ag s σ H R I h;refine c7 (hl ag s σ H _ I h) λv s1 ⟨x,M,G,O,T⟩=>?_;obtain⟨a,e,⟨xs,hq⟩,q⟩:=T;subst e;cases O
 obtain⟨its,U,p,hz⟩:=G.list hq;refine wpAny_pyIter_list p.isList ?_;refine⟨s1.heap.objs.size,[s1.heap.objs.size],_,_,M,rfl,G.kept (t':=s1.toks) λb o e=>vZ _ e,EH a _,⟨_,vY _ rfl,rfl,rfl⟩,λb hb=>?_,q⟩;have e:b=s1.heap.objs.size:=by simpa using hb
 subst e;exact G.fpOk (vT _) (G.hok.fresh (vT _))
theorem NM {l:Expr}{tl:TE}(hl:PE X l tl):PI X tg l (TV X.K tl):=by
 intro ag s σ H R I h;refine c7 (hl ag s σ H _ I h) λv s1 ⟨x,M,G,O,T⟩=>?_;obtain⟨a,e,⟨xs,hq⟩,q⟩:=T;subst e;cases O
 obtain⟨its,U,p,hz⟩:=G.tuple hq;refine wpAny_pyIter_tuple (show s1.heap.IsTuple a its.toArray from p) ?_;refine⟨s1.heap.objs.size,[s1.heap.objs.size],_,_,M,rfl,G.kept (t':=s1.toks) λb o e=>vZ _ e,BA a _,⟨_,vY _ rfl,rfl,rfl⟩,λb hb=>?_,q⟩;have e:b=s1.heap.objs.size:=by simpa using hb
 subst e;exact G.fpOk (vT _) (G.hok.fresh (vT _))
theorem G3 {ag:AO}{σ:St}{H:Hp}{s:Shared}{R:It->Hp->Prop}{E:QV}{lo hi:Int}{t u v:Tok}{tk:Nat}(I:Inv X ag σ H s)(h1 : -(2 ^ 62)<=lo)(h2:lo<2 ^ 62)(h3 : -(2 ^ 62)<=hi)(h4:hi<2 ^ 62)
  (q:R (Tj lo (hi - lo).toNat) H):wq X (pyIter (.ref s.heap.objs.size)) (VO X ag σ tg R) E { s with heap:=s.heap.push { cls:=.type "range",data:=.fields #[.int lo t,.int hi u,.int 1 v] },toks:=tk }:=by
 refine wpAny_pyIter_range (IsRange.new ..) (small_one h1 h2 h3 h4) ?_;have G:Inv X ag σ H { s with heap:=s.heap.push { cls:=.type "range",data:=.fields #[.int lo t,.int hi u,.int 1 v] },toks:=tk }:=I.kept λb o e=>vZ _ e;refine⟨(s.heap.push { cls:=.type "range",data:=.fields #[.int lo t,.int hi u,.int 1 v] }).objs.size,[(s.heap.push { cls:=.type "range",data:=.fields #[.int lo t,.int hi u,.int 1 v] }).objs.size],_,_,H,rfl,
  G.kept (t':=tk) λb o e=>vZ _ e,BB _ lo (hi - lo).toNat,?_,λb hb=>?_,q⟩
 .have M:lo+((0:Nat):Int)*1=lo:=N9
  have e2:(((hi - lo).toNat:Nat):Int) - ((0:Nat):Int)=Builtin.Range.rangeSize lo hi 1:=by rw[rangeSize_one];split<;>lia
  show IsRangeIter _ _ (lo+((0:Nat):Int)*1) ((((hi - lo).toNat:Nat):Int) - ((0:Nat):Int)) 1;rw[M,e2];exact vY _ rfl
 .have e:b=(s.heap.push { cls:=.type "range",data:=.fields #[.int lo t,.int hi u,.int 1 v] }).objs.size:=by simpa using hb
  subst e;exact G.fpOk (vT _) (G.hok.fresh (vT _))
def QF (ta:TA):TI:=λσ H R=>ta σ H λvs G=>∃j:Int,vs=[.int j]/\-(2 ^ 62)<=j/\j<2 ^ 62/\R (Tj 0 j.toNat) G
theorem EI {a:Expr}{ta:TA}{p G:Pos}(O:Gl X "range")(hm:X.mg "range" = none)(ha:PA X [a] ta)(hs:starEach [a] X.env=[(false,eval a X.env)]:=by rfl):PI X tg (.Call (.Name "range" p) [a] [] G) (QF ta):=by
 intro ag s σ H R I h;refine Call_ (hV I O hm boot_range (PyProof.Rows.callWith_type1 (c7 (ha G ag s σ H _ I h) λus s1 ⟨vs,d,T,U,M⟩=>?_) hs rfl));obtain⟨j,e,M,b,q⟩:=M;subst e;cases U with
 |cons r c=>
  cases c
  obtain⟨t,rfl⟩:=r;exact call_range_1 (G3 T M9 M9 M b (by simpa using q))
def NN (T:TI)(g:TG)(tb:TS):TS:=λD σ H=>T σ H λJ U=>∃W:Nat->Nat->St->Hp->Prop,(∃m,W 0 m σ U)/\∀i m σ H,W i m σ H ->
 (J.stop i H/\D.nx σ H)\/(J.go i H/\∃N:St->Hp->Prop,(∀G H',N G H'->∃O,O<m/\W (i+1) O G H')/\∀x H',J.yld i H x H'->g x σ H' λM H2=>tb { D with nx:=N,ct:=N,bk:=D.nx } M H2)
noncomputable def pe (fp:List Addr)(h:Heap):AO:=fp.filterMap λb=>(h.get? b).map λo=>(b,o)
theorem jU {fp:List Addr}{h:Heap}{b:Addr}{o:Obj}(hb:b∈fp)(e:h.get? b=some o):(b,o)∈pe fp h:=mem_filterMap.mpr ⟨b,hb,by rw[e];rfl⟩
theorem EJ (hp:p∈pe fp h):p.1∈fp/\h.get? p.1=some p.2:=by
 obtain⟨b,hb,e⟩:=mem_filterMap.mp hp;simp_all<;>lia
theorem Inv.pinned (I:Inv X ag σ H s)(hf:∀b∈fp,mO X ag H b)(G:∀b∈fp,∃o,s.heap.get? b=some o/\∀v,o.data≠.cell v):Inv X (ag++pe fp s.heap) σ H s :=
 I.pins_of λp hp=>(mem_append.mp hp).elim (λz=>I.pin p (mY _ z)) λz=>by
  obtain⟨hb,e⟩:=EJ z;obtain⟨f0,f1,f2,_⟩:=hf p.1 hb;grind
theorem Inv.unpinned (I:Inv X (ag++pl) σ H s):Inv X ag σ H s:=I.pins_of λp hp=>I.pin p (mY _ (mem_append_left _ hp))
theorem G4 {M:Expr}{k:List Stmt}{C:TI}{g:TG}{tb:TS}{q:Pos}(hp:PassesOwn (model X.prog X.w) X.A X.env X.xe)(hc:X.calm=true)(hi:PI X tg M C)(R:PG X tg g)(hb:uR X k tb)
  (hs:∀x,foldedSetIterable M X.env x=pure x:=by intro _;rfl):PS X (.For tg M k [] q) (NN C g tb):=by
 intro ag s σ H D I h;refine wpAny_For (c7 (hi ag s σ H _ I h) λv s1 h1=>c7 h1 λWz s2 h2=>?_) hs;obtain⟨it,fp,tn,J,H2,e,S,T,V,f2,W,⟨Y,Z⟩,UV⟩:=h2;subst e
 -- what stays true of the iterator's objects through the loop
 have O:∀ {H':Hp},(∀b∈fp,H' b=none)->∀b∈fp,mO X ag H' b:=λhn b hb=>⟨hn b hb,(f2 b hb).2⟩;refine codeAny_forLoop_any (λn s'=>∃i U H',Inv X ag U H' s'/\tn i s'.heap/\(∀b∈fp,H' b=none)/\W i n U H') ?_ Y ⟨0,σ,H2,S,V,λb hb=>(f2 b hb).1,Z⟩;rintro n E ⟨i,a,p,F,K,L,w3⟩;rcases UV i n a p w3 with⟨stop,qn⟩|⟨go,N,hN,step⟩
 .refine wpAny_passesOwn hp (c7 (T.done X rfl rfl rfl hc i ag E a p X.xe F (O L) K stop) λr s4 ⟨t,I4⟩=>?_);subst t;exact wpAny_execs_nil ⟨a,p,I4,qn⟩
 .refine wpAny_passesOwn hp (c7 (T.item X rfl rfl rfl hc i ag E a p X.xe F (O L) K go) λr s4 ⟨u,t,h4⟩=>?_);subst t;refine wpAny_passesOwn hp (c7 h4 λ_ P ⟨x,Q,I5,r5,y5,y,UX⟩=>?_);have YL:=I5.pinned (O UX) (T.obj _ _ y);refine wpAny_passesOwn hp (c7 (R _ P a Q x u _ YL r5 (step x Q y5)) λ_ s6 ⟨z,H6,I6,q6⟩=>?_);refine wpAny_passesOwn hp (c7 (hb _ s6 z H6 _ I6 q6) λf B l=>?_);have again:∀ {G:St}{c:Hp},Inv X (ag++pe fp P.heap) G c B->N G c->∃m,m<n/\∃i U H',Inv X ag U H' B/\tn i B.heap/\(∀b∈fp,H' b=none)/\W i m U H':=λ{G c} j n7=>by
   obtain⟨m',hm,w7⟩:=hN G c n7;refine⟨m',hm,i+1,G,c,j.unpinned,T.keep _ _ _ y λb hb o e=>(j.pin (b,o) (mY _ (mY _ (jU hb e)))).1,λb hb=>?_,w7⟩;obtain⟨o,e,d⟩:=T.obj _ _ y b hb;exact(j.pin (b,o) (mY _ (mY _ (jU hb e)))).2.1
  cases f with
  |next=>obtain⟨G,c,j,n7⟩:=l;exact again j n7
  |cont=>obtain⟨G,c,j,n7⟩:=l;exact again j n7
  |brk=>obtain⟨G,c,j,l⟩:=l;exact⟨G,c,j.unpinned,l⟩
  |ret v=>obtain⟨x7,G,c,j,r7,l⟩:=l;exact⟨x7,G,c,j.unpinned,r7,l⟩
end
abbrev R2:=V->V->Hp->VK->Prop
def dU (X:Cx)(f:Value->Value->Sem Value)(r:R2):Prop :=
 ∀(ag:AO)(s:Shared)(σ:St)(H:Hp)(x y:V)(v u:Value)(Q:VK),Inv X ag σ H s->aX x v->aX y u->r x y H Q ->
  wq X (f v u) (EP X ag σ Q) X.xe s
def QG (X:Cx)(f:Value->Sem Value)(r:V->Hp->VK->Prop):Prop :=
 ∀(ag:AO)(s:Shared)(σ:St)(H:Hp)(x:V)(v:Value)(Q:VK),Inv X ag σ H s->aX x v->r x H Q ->
  wq X (f v) (EP X ag σ Q) X.xe s
def cn (X:Cx)(f:Value)(r:List V->Hp->VK->Prop):Prop :=
 ∀(ag:AO)(s:Shared)(σ:St)(H:Hp)(xs:List V)(us:LU)(Q:VK),Inv X ag σ H s->bg xs us->r xs H Q ->
  wq X (call f us) (EP X ag σ Q) X.xe s
def Tk (r:R2)(ta tb:TE):TE:=λσ H Q=>ta σ H λx G=>tb σ G λy H2=>r x y H2 Q
def X3 (r:V->Hp->VK->Prop)(ta:TE):TE:=λσ H Q=>ta σ H λx G=>r x G Q
def rI (C:Int->Int->Prop)(g:Int->Int->V):R2:=λx y H Q=>∃i j,x=.int i/\y=.int j/\C i j/\Q (g i j) H
def Kc (g:Int->Int->V):R2:=λx y H Q=>∃i j,x=.int i/\y=.int j/\Q (g i j) H
def rU (g:Int->V):V->Hp->VK->Prop:=λx H Q=>∃i,x=.int i/\Q (g i) H
section
variable {X:Cx}{a b c:Expr}{ta tb tc:TE}{pos:Pos}
theorem NO (ha:PE X a ta)(hb:PE X b tb){ag:AO}{s:Shared}{σ:St}{H:Hp}{R:V->V->Hp->Prop}(I:Inv X ag σ H s)
  (h:ta σ H λx O=>tb σ O λy H2=>R x y H2) {Q:QV}{f:Value->Value->Sem Value}
  (hf:∀v u s2 x y H2,Inv X ag σ H2 s2->aX x v->aX y u->R x y H2->wq X (f v u) Q X.xe s2):
  wq X (eval a X.env) (λv G=>wq X (eval b X.env) (λu M=>wq X (f v u) Q X.xe M) X.xe G) X.xe s:=by
 refine c7 (ha ag s σ H _ I h) λv s1 ⟨x,O,T,U,d⟩=>?_;refine c7 (hb ag s1 σ O _ T d) λu s2 ⟨y,H2,e,g,i⟩=>?_;exact hf v u s2 x y H2 e U g i
theorem QH {op:Operator}{r:R2}(G:dU X (binaryOp op) r)(ha:PE X a ta)(hb:PE X b tb):PE X (.BinOp a op b pos) (Tk r ta tb):=by
 intro ag s σ H Q I h;exact wpAny_BinOp (NO ha hb I h λv u s2 x y H2 M O T q=>G ag s2 σ H2 x y v u Q M O T q)
theorem QI {op:UnaryOp}{r:V->Hp->VK->Prop}(G:QG X (unaryOp op) r)(ha:PE X a ta):PE X (.UnaryOp op a pos) (X3 r ta):=by
 intro ag s σ H Q I h;exact UnaryOp_ (c7 (ha ag s σ H _ I h) λv s1 ⟨x,M,O,T,U⟩=>G ag s1 σ M x v Q O T U)
theorem QJ {f:Value->Value->Sem Value}{C:Int->Int->Prop}{g:Int->Int->Int}
  (rule:∀(i j:Int)(t u:Tok)(s:Shared)(Q:QV)(E:QV),C i j->Q (.int (g i j) s.toks) { s with toks:=s.toks+1 }->wq X (f (.int i t) (.int j u)) Q E s):
  dU X f (rI C λi j=>.int (g i j)):=by
 intro ag s σ H x y v u Q I G M h;obtain⟨i,j,rfl,rfl,hc,q⟩:=h;obtain⟨t,rfl⟩:=G;obtain⟨t',rfl⟩:=M;exact rule i j t t' s _ _ hc ⟨.int (g i j),H,I.tok _,⟨_,rfl⟩,q⟩
theorem NP {f:Value->Value->Sem Value}{g:Int->Int->Int}
  (rule:∀(i j:Int)(t u:Tok)(s:Shared)(Q:QV)(E:QV),Q (.int (g i j) s.toks) { s with toks:=s.toks+1 }->wq X (f (.int i t) (.int j u)) Q E s):
  dU X f (Kc λi j=>.int (g i j)):=by
 intro ag s σ H x y v u Q I G M h;obtain⟨i,j,rfl,rfl,q⟩:=h;obtain⟨t,rfl⟩:=G;obtain⟨t',rfl⟩:=M;exact rule i j t t' s _ _ ⟨.int (g i j),H,I.tok _,⟨_,rfl⟩,q⟩
theorem Kr {f:Value->Value->Sem Value}{g:Int->Int->Bool}
  (rule:∀(i j:Int)(t u:Tok)(s:Shared)(Q:QV)(E:QV),Q (.bool (g i j)) s->wq X (f (.int i t) (.int j u)) Q E s):
  dU X f (Kc λi j=>.bl (g i j)):=by
 intro ag s σ H x y v u Q I G M h;obtain⟨i,j,rfl,rfl,q⟩:=h;obtain⟨t,rfl⟩:=G;obtain⟨t',rfl⟩:=M;exact rule i j t t' s _ _ ⟨.bl (g i j),H,I,rfl,q⟩
def QK (i j:Int):Prop:=0<j/\j<1073741824
def QL (i j:Int):Prop:=0<=j/\j<=1000000/\i.natAbs<2 ^ 64
def Ks (i j:Int):Prop:=(-(2 ^ 64)<i/\i<2 ^ 64)\/(-(2 ^ 64)<j/\j<2 ^ 64)
theorem Ks.ok (h:Ks i j):IntMulOk i j:=by
 rcases h with⟨h1,h2⟩|⟨h1,h2⟩
 .exact .of_left (intBits_le_64 h1 h2)
 .exact .of_right (intBits_le_64 h1 h2)
theorem NQ:dU X (binaryOp .Add) (Kc λi j=>.int (i+j)):=NP λ_ _ _ _ _ _ _ q=>add_int q
theorem NR:dU X (binaryOp .Sub) (Kc λi j=>.int (i - j)):=NP λ_ _ _ _ _ _ _ q=>sub_int q
theorem NS:dU X (binaryOp .Mult) (rI Ks λi j=>.int (i*j)):=QJ λ_ _ _ _ _ _ _ hc q=>mul_int q hc.ok
theorem Kt:dU X (binaryOp .FloorDiv) (rI QK λi j=>.int (i / j)):=QJ λi j _ _ _ _ _ hc q=>by
 have h1:(0:Int)<j:=hc.1;have h2:j<1073741824:=hc.2;grind[floordiv_int,PyProof.noPylong_small]
theorem NT:dU X (binaryOp .Mod) (rI (λ_ j=>0<j) λi j=>.int (i % j)):=QJ λi j _ _ _ _ _ hc q=>by
 have h1:(0:Int)<j:=hc;exact mod_int' M9 (by rw[Int.fmod_eq_emod_of_nonneg i M9];exact q)
theorem NU:dU X (binaryOp .Pow) (rI QL λi j=>.int (i ^ j.toNat)):=QJ λ_ _ _ _ _ _ _ hc q=>pow_int_small hc.1 hc.2.1 hc.2.2 q
theorem NV:dU X (binaryOp .BitAnd) (Kc λi j=>.int (Builtin.bitAnd i j)):=NP λ_ _ _ _ _ _ _ q=>and_int q
theorem X4 {f:Value->Sem Value}{g:Int->Int}
  (rule:∀(i:Int)(t:Tok)(s:Shared)(Q:QV)(E:QV),Q (.int (g i) s.toks) { s with toks:=s.toks+1 }->wq X (f (.int i t)) Q E s):
  QG X f (rU λi=>.int (g i)):=by
 intro ag s σ H x v Q I G h;obtain⟨i,rfl,q⟩:=h;obtain⟨t,rfl⟩:=G;exact rule i t s _ _ ⟨.int (g i),H,I.tok _,⟨_,rfl⟩,q⟩
theorem NW:QG X (unaryOp .USub) (rU λi=>.int (-i)):=X4 λ_ _ _ _ _ q=>neg_int q
theorem EK:dU X (binaryOp .Add) (λx y H Q=>∃i k,x=.int i/\y=.bl k/\Q (.int (i+b2i k)) H):=by
 intro ag s σ H x y v u Q I G M h;obtain⟨i,k,rfl,rfl,q⟩:=h;obtain⟨t,rfl⟩:=G;cases M
 exact add_int_bool ⟨.int (i+b2i k),H,I.tok _,⟨_,rfl⟩,q⟩
end
section
variable {X:Cx}{a b c:Expr}{ta tb tc:TE}{pos:Pos}
theorem QM:dU X (compareOp .Lt) (Kc λi j=>.bl (decide (i<j))):=Kr λ_ _ _ _ _ _ _ q=>lt_int q
theorem QN:dU X (compareOp .LtE) (Kc λi j=>.bl (decide (i<=j))):=Kr λ_ _ _ _ _ _ _ q=>le_int q
theorem QO:dU X (compareOp .Gt) (Kc λi j=>.bl (decide (j<i))):=Kr λ_ _ _ _ _ _ _ q=>gt_int q
theorem QP:dU X (compareOp .GtE) (Kc λi j=>.bl (decide (j<=i))):=Kr λ_ _ _ _ _ _ _ q=>ge_int q
theorem dU.or (h:dU X f r)(h':dU X f O):dU X f (λx y H Q=>r x y H Q\/O x y H Q):=by
 intro ag s σ H x y v u Q I G M q;rcases q with q|q
 .exact h ag s σ H x y v u Q I G M q
 .exact h' ag s σ H x y v u Q I G M q
theorem Ku (G:dU X (compareOp op) r)(ha:PE X a ta)(hb:PE X b tb)(hm:behindInMarks op b=false):PE X (.Compare a [op] [b] pos) (Tk r ta tb):=by
 intro ag s σ H Q I h;exact wpAny_Compare1 (NO ha hb I h λv u s2 x y H2 M O T q=>G ag s2 σ H2 x y v u Q M O T q) hm
def M8 (t:TE):TT:=λσ H Q=>t σ H λx H'=>∃k,x=.bl k/\Q k H'
theorem CV {op:CmpOp}{r:R2}(G:dU X (compareOp op) r)(ha:PE X a ta)(hb:PE X b tb)(hm:behindInMarks op b=false):PT X (.Compare a [op] [b] pos) (M8 (Tk r ta tb)):=by
 intro ag s σ H Q I h;refine wpAny_isTrue_Compare1 (c7 (ha ag s σ H _ I h) λv s1 ⟨x,M,O,T,U⟩=>c7 (hb ag s1 σ M _ O U) λu s2 ⟨y,H2,d,f,g⟩=>
  c7 (G ag s2 σ H2 x y v u _ d T f g) λc n ⟨z,i,j,l,k,e,m⟩=>?_) hm
 subst e;cases l
 exact wpAny_truthy_bool ⟨i,j,m⟩
def BC (r M:R2)(ta tb tc:TE):TE:=λσ H Q=>ta σ H λx O=>tb σ O λy H2=>r x y H2 λz G=>∃k,z=.bl k /\
 (if k=true then tc σ G λT U=>M y T U Q else Q (.bl false) G)
theorem G5 {op G:CmpOp}{r O:R2}(i:dU X (compareOp op) r)(M:dU X (compareOp G) O)(ha:PE X a ta)(hb:PE X b tb)(hc:PE X c tc)
  (hm:lastMarks [op,G] [b,c]=false:=by with_unfolding_all rfl):PE X (.Compare a [op,G] [b,c] pos) (BC r O ta tb tc):=by
 intro ag s σ H Q I h;refine Compare_chain (c7 (ha ag s σ H _ I h) λv s1 ⟨x,j,l,m,n⟩=>chain_link (c7 (hb ag s1 σ j _ l n) λu s2 ⟨y,H2,o,T,p⟩=>
  c7 (i ag s2 σ H2 x y v u _ o m T p) λd q ⟨z,U,f,t,k,e,g⟩=>?_)) hm
 subst e;cases t
 refine wpAny_truthy_bool ?_;cases k with
 |false=>exact ite_ff ⟨.bl false,U,f,rfl,g⟩
 |true=>exact ite_tt (chain_last (c7 (hc ag q σ U _ f g) λw A ⟨B,C,D,E,F⟩=>M ag A σ C y B u w Q D T E F))
theorem G6 {op G:CmpOp}{r O:R2}(i:dU X (compareOp op) r)(M:dU X (compareOp G) O)(ha:PE X a ta)(hb:PE X b tb)(hc:PE X c tc)
  (hm:lastMarks [op,G] [b,c]=false:=by with_unfolding_all rfl):PT X (.Compare a [op,G] [b,c] pos) (M8 (BC r O ta tb tc)):=by
 intro ag s σ H Q I h;refine isTrue_chain (c7 (ha ag s σ H _ I h) λv s1 ⟨x,j,l,m,n⟩=>test_link (c7 (hb ag s1 σ j _ l n) λu s2 ⟨y,H2,o,T,p⟩=>
  c7 (i ag s2 σ H2 x y v u _ o m T p) λd q ⟨z,U,f,t,k,e,g⟩=>?_)) hm
 subst e;cases t
 refine wpAny_truthy_bool ?_;cases k with
 |false=>
  obtain⟨k',w,A⟩:=g;cases w
  exact ite_ff ⟨U,f,A⟩
 |true=>
  refine ite_tt (test_last (c7 (hc ag q σ U _ f g) λB C ⟨D,E,F,J,K⟩=>c7 (M ag C σ E y D u B _ F T J K) λd' S ⟨V,L,N,P,k2,e2,R⟩=>?_));subst e2;cases P
  exact wpAny_truthy_bool ⟨L,N,R⟩
theorem pf:(sizeLine:Nat)<2 ^ 63:=by rw[sizeLine_eq];decide
theorem BD:dU X (binaryOp .Add) (λx y H Q=>∃i j,x=.str i/\y=.str j/\i.length+j.length<=sizeLine/\Q (.str (i++j)) H):=by
 intro ag s σ H x y v u Q I G M h;obtain⟨i,j,rfl,rfl,hz,q⟩:=h;obtain⟨t,rfl⟩:=G;obtain⟨t',rfl⟩:=M;exact add_str (λt' tk=>⟨.str (i++j),H,I.tok _,⟨_,rfl⟩,q⟩) hz
theorem ij (r:bg [x] us):∃u,us=[u]/\aX x u:=by
 cases r with
 |cons G M=>cases M;exact⟨_,rfl,G⟩
theorem G7 (r:bg [x,y] us):∃u G,us=[u,G]/\aX x u/\aX y G:=by
 cases r with
 |cons M O=>
  cases O with
  |cons T U=>cases U;exact⟨_,_,rfl,M,T⟩
theorem EL (hc:X.calm=true):cn X (.builtin "min") (λxs H Q=>∃i j,xs=[.int i,.int j]/\Q (.int (if j<i then j else i)) H):=by
 intro ag s σ H xs us Q I r h;obtain⟨i,j,rfl,q⟩:=h;obtain⟨u,G,rfl,⟨t,rfl⟩,⟨t',rfl⟩⟩:=G7 r;refine min_two_ints (I.ok.hd hc) λh' tk k=>⟨_,H,I.kept k,?_,q⟩;by_cases hj:j<i
 .rw[if_pos hj,if_pos hj];exact⟨_,rfl⟩
 .rw[if_neg hj,if_neg hj];exact⟨_,rfl⟩
end
structure Mx (h:Heap)(x dx C:Addr)(mA:Str->Option Value):Prop where
 obj:h.get? x=some (PySem.W.instObj C dx)
 ns:h.Ns1 dx mA
 ne:dx≠x
theorem EM {h:Heap}{dx:Addr}{mA:SV}(n:h.Ns1 dx mA):∃od,h.get? dx=some od/\∀name,PySem.W.lookIn name od=some (mA name):=by
 obtain⟨o,es,O,M,hd,hk,_,hm⟩:=n;refine⟨o,M,λname=>?_⟩;have e:=hm name;unfold nsFind findBy at e;rw[<-Array.find?_toList]at e;unfold PySem.W.lookIn;rw[hd];dsimp only;split
 .simp_all
 .rename_i q;rw[q]at e;have a:es.toList.any (·.refKey)=false:=by
   rw[List.any_eq_false];intro y hy;obtain⟨z,t,G⟩:=hk y (Array.mem_toList_iff.mp hy);simp[DictEntry.refKey,G]
  split<;>simp_all
theorem Mx.look (I:Mx h x dx C mA):∃od,PySem.W.InstAt h x (PySem.W.instObj C dx) C (some od)/\∀name,PySem.W.lookIn name od=some (mA name) :=
 let ⟨od,G,hl⟩:=EM I.ns
 ⟨od,⟨I.obj,rfl,rfl,G⟩,hl⟩
section
variable {prog:Program}{w:World}{A:Around}{E:QV}{s:Shared}{K:Frag}{x dx C f:Addr}{mA:SV}{name:Str}{v:Value}
end
theorem qG.none_of (r:qG none o):o=none:=by
 cases o with
 |none=>rfl
 |some u=>exact(show False from r).elim
section
variable {P:Program}{w:World}{H H':Hp}{h h':Heap}{a C dx:Addr}{fs YJ:List (Str×V)}
theorem CW (hok:mw P w H h)(e:H a=some (.ins C dx fs)):∃mA,Mx h a dx C mA/\(∀f,qG (fs.lookup f) (mA f))/\PySem.Within mA (fs.map (·.1))/\fs.length<=1000/\H dx=some (.own a):=by
 obtain⟨d,z,ne,ob,mA,n,r,q⟩:=(show bP P w H h a (.ins C dx fs)from hok a _ e);exact⟨mA,⟨ob,n,ne⟩,r,q,z,d⟩
end
structure Cls (K:Frag)(C:Addr):Prop where
 pg:PySem.W.plainGet K C Str.empty=true
 hd:PySem.W.hasDictIn K C=true
 po:PySem.W.plainOver K C=true
 sa:PySem.W.findIn K (.ref C) "__setattr__" = some (some (.builtin "object.__setattr__"))
theorem Cls.get {K:Frag}{C:Addr}(c:Cls K C)(f:Str):PySem.W.plainGet K C f=true:=c.pg
structure Meth (K:Frag)(C:Addr)(m:Str)(f:Addr):Prop where
 at_:PySem.W.findIn K (.ref C) m=some (some (.ref f))
 fn:PySem.W.isFn K (.ref f)=true
 kp:PySem.W.keepIn K (.ref f)=true
section
variable {X:Cx}{ag:AO}{σ:St}{H:Hp}{s:Shared}{a C dx:Addr}{fs:List (Str×V)}{f:Str}{v:V}{A:Around}{E:QV}
theorem Inv.made (I:Inv X ag σ H s):Inv X ag σ (upd (upd H s.heap.objs.size (.own (s.heap.objs.size+1))) (s.heap.objs.size+1) (.ins C s.heap.objs.size []))
  { s with heap:=(s.heap.push PySem.W.emptyDict).push (PySem.W.instObj C s.heap.objs.size) }:=by
 have G:(s.heap.push PySem.W.emptyDict).get? s.heap.objs.size=some PySem.W.emptyDict:=vY s.heap rfl;have e2:((s.heap.push PySem.W.emptyDict).push (PySem.W.instObj C s.heap.objs.size)).get? (s.heap.objs.size+1)=some (PySem.W.instObj C s.heap.objs.size):=by
  have:=vY (s.heap.push PySem.W.emptyDict) (o:=PySem.W.instObj C s.heap.objs.size) rfl;simp_all
 have M:(s.heap.push PySem.W.emptyDict).Ns s.heap.objs.size (λ_=>none):=⟨PySem.W.emptyDict,#[],_,G,rfl,(λe he=>absurd he N9),λ_=>rfl⟩;have O:=I.laid (a:=s.heap.objs.size) (o:=.own (s.heap.objs.size+1)) (h':=s.heap.push PySem.W.emptyDict) (t':=s.toks) (λb u q=>vZ _ q) (vT _) ⟨_,G⟩;refine O.laid (a:=s.heap.objs.size+1) (o:=.ins C s.heap.objs.size []) (t':=s.toks) (λb u q=>vZ _ q) (le_of_eq (Heap.size_push _ _)) ?_;have ne:s.heap.objs.size≠s.heap.objs.size+1:=vS (Nat.lt_succ_self _);refine⟨by rw[aK ne,a8],uN _,ne,e2,λ_=>none,(Heap.Ns1.of_empty M).at λo q=>vZ _ q,λ_=>True.intro,λy hy=>absurd rfl hy⟩
end
section
variable {X:Cx}{o e value:Expr}{f:Str}{pos pT PD:Pos}{ta tv:TE}
end
section
variable {X:Cx}{ag:AO}{σ:St}{H:Hp}{s:Shared}{A:Around}{E:QV}{Q:QV}{c:Value}{b:Bool}
inductive TyOf (K:Frag)(H:Hp):V->Value->Prop where
 |non:TyOf K H .non (.type "NoneType")
 |bl (x:Bool):TyOf K H (.bl x) (.type "bool")
 |int (i:Int):TyOf K H (.int i) (.type "int")
 |str (x:Str):TyOf K H (.str x) (.type "str")
 |flt (x:UInt64):TyOf K H (.flt x) (.type "float")
 |lst {a:Addr}{xs:List V}(e:H a=some (.lst xs)):TyOf K H (.ref a) (.type "list")
 |frz {a:Addr}{o:Obj}{xs:List V}(e:H a=some (.frz o (.lst xs))):TyOf K H (.ref a) (.type "list")
 |tup {a:Addr}{xs:List V}(e:H a=some (.tup xs)):TyOf K H (.ref a) (.type "tuple")
 |dK {a:Addr}{aR:List (ft×V)}{ob:Obj}(e:H a=some (.dK aR ob)):TyOf K H (.ref a) (.type "dict")
 |dT {a:Addr}{aR:List (List ft×V)}(e:H a=some (.dT aR)):TyOf K H (.ref a) (.type "dict")
 |ins {a C dx:Addr}{fs:List (Str×V)}(e:H a=some (.ins C dx fs)) (cl:Cls K C) (ha:PySem.W.findIn K (.ref C) "__class__" = some (some (.builtin "object.__class__")))
   (hn:PySem.W.specialIn K (.builtin "object.__class__") "__get__" = some (some (.builtin "getset_descriptor.__get__"))) (W2:PySem.W.takesIn K (.builtin "object.__class__")=some true)
   (hm:PySem.W.mroIn K C (.type "object")=some true):TyOf K H (.ref a) (.ref C)
theorem iB (I:Inv X ag σ H s)(G:aX x u)(ty:TyOf X.K H x t)(e:PySem.W.kitOne X.K t c=some b)(h:∀tk,Q (.bool b) { s with toks:=tk }):
  wpAny (model X.prog X.w) A (call (.builtin "isinstance") [u,c]) Q E s:=by
 cases ty with
 |non=>cases (show u=Value.none from G);exact kia_one PySem.W.kitx_none I.kIn True.intro e (λz=>nomatch z) h
 |bl y=>cases (show u=Value.bool y from G);exact kia_one PySem.W.kitx_bool I.kIn True.intro e (λz=>nomatch z) h
 |int i=>obtain⟨t,q⟩:=(show ∃t,u=Value.int i t from G);cases q;exact kia_one PySem.W.kitx_int I.kIn True.intro e (λz=>nomatch z) h
 |str y=>obtain⟨t,q⟩:=(show ∃t,u=Value.str y t from G);cases q;exact kia_one PySem.W.kitx_str I.kIn True.intro e (λz=>nomatch z) h
 |flt y=>obtain⟨t,q⟩:=(show ∃t,u=Value.float y t from G);cases q;exact kia_one PySem.W.kitx_float I.kIn True.intro e (λz=>nomatch z) h
 |@lst a xs M=>
  cases (show u=Value.ref a from G)
  obtain⟨_,_,n,_,h1⟩:=(show bP X.prog X.w H s.heap a (.lst xs)from I.hok a _ M);exact kia_one PySem.W.kitx_list I.kIn ⟨_,h1,rfl⟩ e (λz=>nomatch z) h
 |@frz a ob xs M=>
  cases (show u=Value.ref a from G)
  obtain⟨_,_,_,n,_,h1⟩:=(show bP X.prog X.w H s.heap a (.frz ob (.lst xs))from I.hok a _ M);exact kia_one PySem.W.kitx_list I.kIn ⟨_,h1,rfl⟩ e (λz=>nomatch z) h
 |@tup a xs M=>
  cases (show u=Value.ref a from G)
  obtain⟨_,_,_,p⟩:=(show bP X.prog X.w H s.heap a (.tup xs)from I.hok a _ M);obtain⟨o,h1,h2,_⟩:=p;exact kia_one PySem.W.kitx_tuple I.kIn ⟨o,h1,h2⟩ e (λz=>nomatch z) h
 |@dK a aR ob M=>
  cases (show u=Value.ref a from G)
  obtain⟨_,_,_,vs,_,p⟩:=(show bP X.prog X.w H s.heap a (.dK aR ob)from I.hok a _ M);obtain⟨o,es,T,h1,h2,_⟩:=p;exact kia_one PySem.W.kitx_dict I.kIn ⟨o,h1,h2.1⟩ e (λz=>nomatch z) h
 |@dT a aR M=>
  cases (show u=Value.ref a from G)
  obtain⟨_,_,xs,_,o,es,T,h1,h2,_⟩:=(show bP X.prog X.w H s.heap a (.dT aR)from I.hok a _ M);exact kia_one PySem.W.kitx_dict I.kIn ⟨o,h1,h2.1⟩ e (λz=>nomatch z) h
 |@ins a C dx fs M cl ha hn W2 hm=>
  cases (show u=Value.ref a from G)
  obtain⟨mA,O,_⟩:=CW I.hok M;obtain⟨od,J,_⟩:=O.look;exact kia_one (PySem.W.kitx_own (cl.get _) cl.hd ha hn W2 hm) I.kIn J e (λz=>nomatch z) h
end
structure eU (k:Nat)(A:Around):Prop where
 hd:A.handled=none
 dp:A.depth+3*k+5<recursionLimit
 un:A.units+16*k+200<cLine
theorem eU.mono (r:eU k A)(h:j<=k):eU j A:=⟨r.hd,by have:=r.dp;lia,by have:=r.un;lia⟩
theorem eU.deeper (r:eU (k+1) A)(env:Env):eU k (A.deeper env) :=
 ⟨r.hd,by have:=r.dp;show A.depth+1+3*k+5<_;lia,by have:=r.un;simp<;>lia⟩
theorem eU.in1 (r:eU (k+1) A):eU k A.in1 :=
 ⟨r.hd,by have:=r.dp;lia,by have:=r.un;lia⟩
theorem eU.depth (r:eU k A):A.depth<recursionLimit:=by have:=r.dp;lia
def QR:TA:=λ_ H Q=>Q [] H
def MA (ta:TE)(G:TA):TA:=λσ H Q=>ta σ H λx M=>G σ M λxs H2=>Q (x::xs) H2
section
variable {X:Cx}{e:Expr}{es:QD}{te:TE}{t:TA}{pos:Pos}
theorem hW:PA X [] QR:=λ_ _ _ _ H Q I h=>Calls.spliced_nil ⟨[],H,I,.nil,h⟩
theorem fF (ha:PE X e te)(G:PA X es t)(hs:starEach (e::es) X.env=(false,eval e X.env)::starEach es X.env:=by rfl):PA X (e::es) (MA te t):=by
 intro pos ag s σ H Q I h;rw[hs];show wpAny _ _ (spliced ((false,eval e X.env)::backTo pos (starEach es X.env))) _ _ s;refine Calls.spliced_cons (c7 (ha ag s σ H _ I h) λu s1 ⟨x,M,O,T,U⟩=>?_);exact c7 (G pos ag s1 σ M _ O U) λus s2 ⟨xs,H2,a,b,c⟩=>⟨x::xs,H2,a,.cons T b,c⟩
def QS (t:TA):TE:=λσ H Q=>t σ H λxs G=>xs.length<=sizeLine/\∀p,G p=none->Q (.ref p) (upd G p (.tup xs))
def TX (t:TA):TE:=λσ H Q=>t σ H λxs G=>xs.length<=sizeLine/\∀p,G p=none->Q (.ref p) (upd G p (.lst xs))
theorem BF {O}(h:PA X es t):PE X (.Tuple es O pos) (QS t):=by
 intro ag s σ H Q I hq;refine wpAny_Tuple_spliced (c7 (h pos ag s σ H _ I hq) λus s1 ⟨xs,G,M,r,z,q⟩=>⟨by rw[<-r.length];exact z,?_⟩);have hf:G s1.heap.objs.size=none:=M.hok.fresh (vT _);refine⟨.ref s1.heap.objs.size,upd G s1.heap.objs.size (.tup xs),M.laid (t':=s1.toks) (λb u e=>vZ _ e) (vT _) ?_,rfl,q _ hf⟩;exact⟨z,us,r,⟨_,vY _ rfl,rfl,_,rfl⟩⟩
theorem NY (h:PA X es t):PE X (.List es pos) (TX t):=by
 intro ag s σ H Q I hq;refine wpAny_List_spliced (c7 (h pos ag s σ H _ I hq) λus s1 ⟨xs,G,M,r,z,q⟩=>⟨by rw[<-r.length];exact z,?_⟩);have hf:G s1.heap.objs.size=none:=M.hok.fresh (vT _);refine⟨.ref s1.heap.objs.size,upd G s1.heap.objs.size (.lst xs),M.laid (t':=s1.toks) (λb u e=>vZ _ e) (vT _) ?_,rfl,q _ hf⟩;exact⟨z,us,0,r,vY _ rfl⟩
end
abbrev Sp:=List V->Hp->VK->XK->Prop
abbrev MB:=List Env->Hp->Shared->XK->QV
structure Env0 (P:Program)(w:World)(K:Frag)(mg:Str->Option Value)(base:Heap)(A:Around)(outer:List Env)(s:Shared)(H:Hp):Prop where
 frames:A.frames=some outer
 mod:Mod K mg base
 bs:∀b o,base.get? b=some o->s.heap.get? b=some o/\H b=none
 bsz:base.objs.size<=s.heap.objs.size
 funs:s.heap.FunFrames base outer
 frf:∀b∈Gy outer,H b=none
 hok:mw P w H s.heap
 bare:AllBare s.gens
def CE (outer:List Env)(P:Program)(w:World)(H:Hp)(s:Shared)(Q:VK)(u:Value)(s':Shared):Prop :=
 ∃v H',s'.os=s.os/\AllBare s'.gens/\Un (Gy outer) [] H H' s.heap s'.heap/\mw P w H' s'.heap/\aX v u/\Q v H'
def CR (CX:MB)(outer:List Env)(P:Program)(w:World)(H:Hp)(s:Shared)(Q:VK)(E:XK)(r:Result)(s':Shared):Prop :=
 match r with
 |.ok (.ret u)=>CE outer P w H s Q u s'
 |.ok _=>False
 |.error e=>CX outer H s E e s'
structure uM (P:Program)(w:World)(K:Frag)(mg:Str->Option Value)(base:Heap)(CX:MB)(k:Nat)(f:Addr)(fd:FuncData)(ps:List Str)(sp:Sp):Prop where
 len:∀vs H Q E,sp vs H Q E->vs.length=ps.length
 run:∀(A:Around)(outer:List Env)(s:Shared)(H:Hp)(args:Args)(us:List Value)(vs:List V)(Q:VK)(E:XK),eU k A->Env0 P w K mg base A outer s H->BindsTo s fd args (ps.zip us)->bg vs us->sp vs H Q E ->
  codeAny (model P w) A (.call (.ref f) args) (CR CX outer P w H s Q E) s
section
variable {X:Cx}{ag:AO}{σ:St}{H:Hp}{s s':Shared}
theorem Inv.env0 (I:Inv X ag σ H s):Env0 X.prog X.w X.K X.mg X.base X.A X.stack s H :=
 ⟨I.ok.frames,I.ok.mod,I.bs,vR I.ok.bsz I.sz,I.stack,I.stkFree,I.hok,I.bare⟩
theorem Inv.after (I:Inv X ag σ H s)(h:CE X.stack X.prog X.w H s Q u s'):EP X ag σ Q u s':=by
 obtain⟨v,H',os,bare,un,hok,r,q⟩:=h;obtain⟨hh,g,d,t,G⟩:=s';obtain rfl:G=s.os:=os;exact⟨v,H',I.call (h':=hh) (g':=g) (d':=d) (t':=t) (ch:=[]) un hok bare (λb z=>absurd z N9),r,q⟩
end
def QT (sp:Sp)(G:List V)(E:XK)(t:TA):TE:=λσ H Q=>t σ H λvs M=>sp (vs++G) M Q E
def pU (K:Frag)(fd:FuncData)(ps:LS)(ds:LU):Prop :=
 ∀(s:Shared)(us:LU),K.In s.heap->(us++ds).length=ps.length->BindsTo s fd ⟨us,[]⟩ (ps.zip (us++ds))
theorem pU.all {K:Frag}{fd:FuncData}{ps:LS}(h:∀us:LU,us.length=ps.length->bindArgs fd ⟨us,[]⟩=pure (ps.zip us)):pU K fd ps []:=λs us _ hl=>by
 rw[uQ]at hl |-;exact .of_eq (h us hl)
def BG (CX:MB)(X:Cx)(E:XK):Prop:=∀(ag:AO)(σ:St)(H:Hp)(s:Shared)(e:Value)(s':Shared),Inv X ag σ H s->CX X.stack H s E e s'->X.xe e s'
section
variable {X:Cx}{CX:MB}{k:Nat}{f C:Addr}{fd:FuncData}{ps:LS}{sp:Sp}{PF:List V}{ds:LU}{E:XK}{x m:Str}{p pos di:Pos}{e o:Expr}{es:QD}{ta:TE}{t:TA}
theorem NZ {ag:AO}{σ:St}{H:Hp}{s:Shared}{Q:VK}{us:LU}{vs:List V}(F:uM X.prog X.w X.K X.mg X.base CX k f fd ps sp)(M:eU k X.A)(hb:pU X.K fd ps ds)(hd:bg PF ds)(hx:BG CX X E)
  (I:Inv X ag σ H s) (r:bg vs us) (h:sp (vs++PF) H Q E):wq X (call (.ref f) us) (EP X ag σ Q) X.xe s:=by
 have G:bg (vs++PF) (us++ds):=r.append hd;have hl:(us++ds).length=ps.length:=by rw[<-G.length];exact F.len _ _ _ _ h
 refine wpAny_call (codeAny_mono (F.run X.A X.stack s H ⟨us,[]⟩ (us++ds) (vs++PF) Q E M I.env0 (hb s us I.kIn hl) G h) λr s' hq=>?_);cases r with
 |error e=>exact hx ag σ H s e s' I hq
 |ok fl=>
  cases fl with
  |ret u=>exact I.after hq
  |next=>exact False.elim hq
  |brk=>exact False.elim hq
  |cont=>exact False.elim hq
theorem CY (F:uM X.prog X.w X.K X.mg X.base CX k f fd ps sp)(T:eU k X.A)(U:Gl X x)(hm:X.mg x=some (.ref f))(hk:PySem.W.keepIn X.K (.ref f)=true)(hb:pU X.K fd ps ds)(hd:bg PF ds)(hx:BG CX X E)
  (ha:PA X (e::es) t) (G:(x == ("__debug__" : Str))=false:=by decide) (he:starEach (e::es) X.env=(false,eval e X.env)::starEach es X.env:=by rfl) (M:(backTo pos (starEach es X.env)).any (·.1)=false:=by rfl):
  PE X (.Call (.Name x p) (e::es) [] pos) (QT sp PF E t):=by
 intro ag s σ H Q I h;refine wpAny_Call_Name_kw (xO I U hm ?_ G);refine PySem.W.callWith_K (h₀:=X.base) I.ok.mod.kin hk (c7 (ha pos ag s σ H _ I h) λus s1 ⟨vs,a,O,r,q⟩=>⟨O.kIn,?_⟩) he M;exact NZ F T hb hd hx O r q
end
structure FnScope (N P:List Str)(sc:Scope):Prop where
 kind:sc.kind=.function
 co:sc.isCoroutine=false
 gen:sc.isGenerator=false
 nd:N.Nodup
 pre:N.take P.length=P
 par:∀x∈P,sc.names.lookup x=some .local\/sc.names.lookup x=some .cell
 nofree:∀y∈sc.names,y.2≠.free
theorem wa {kindOf:Str->Option NameKind}{x:Str}:∀ {binds:List (Str×Value)}{m:SV},(∀v,(x,v)∉binds)->bindL kindOf binds m x=m x
 |[],_,_=>rfl
 | (n,v)::r,m,h=>by
  unfold bindL;rw[wa λw hw=>h w (mZ _ hw)];split
  .grind
  .rfl
theorem wb {kindOf:Str->Option NameKind}{x:Str}:∀ {binds:List (Str×Value)}{m:SV},(∀v,(x,v)∉binds)->bindC kindOf binds m x=m x
 |[],_,_=>rfl
 | (n,v)::r,m,h=>by
  unfold bindC;rw[wb λw hw=>h w (mZ _ hw)];split
  .rfl
  grind
theorem wc {kindOf:Str->Option NameKind}{x:Str}{v:Value}:∀ {P:LS}{vs:LU}{i:Nat}{m:SV},P.Nodup->P[i]? = some x->vs[i]? = some v->kindOf x=some .local ->
  bindL kindOf (P.zip vs) m x=some v
 |[],_,_,_,_,h,_,_=>by simp at h
 |_::_,[],_,_,_,_,h,_=>by simp at h
 |p::P,w::vs,0,m,nd,h1,h2,hk=>by
  simp at h1 h2;subst h1;subst h2;show bindL kindOf ((p,w)::P.zip vs) m p=_;unfold bindL;rw[wa λv hv=>(nodup_cons.mp nd).1 (of_mem_zip hv).1,if_pos hk];simp
 |p::P,w::vs,i+1,m,nd,h1,h2,hk=>by
  show bindL kindOf ((p,w)::P.zip vs) m x=_;unfold bindL;exact wc (i:=i) (nodup_cons.mp nd).2 (by simpa using h1) (by simpa using h2) hk
theorem we {kindOf:Str->Option NameKind}{x:Str}{v:Value}:∀ {P:LS}{vs:LU}{i:Nat}{m:SV},P.Nodup->P[i]? = some x->vs[i]? = some v->kindOf x≠some .local ->
  bindC kindOf (P.zip vs) m x=some v
 |[],_,_,_,_,h,_,_=>by simp at h
 |_::_,[],_,_,_,_,h,_=>by simp at h
 |p::P,w::vs,0,m,nd,h1,h2,hk=>by
  simp at h1 h2;subst h1;subst h2;show bindC kindOf ((p,w)::P.zip vs) m p=_;unfold bindC;rw[wb λv hv=>(nodup_cons.mp nd).1 (of_mem_zip hv).1,if_neg hk];simp
 |p::P,w::vs,i+1,m,nd,h1,h2,hk=>by
  show bindC kindOf ((p,w)::P.zip vs) m x=_;unfold bindC;exact we (i:=i) (nodup_cons.mp nd).2 (by simpa using h1) (by simpa using h2) hk
noncomputable def kR (N:LS)(vs:List V):St:=vs.map some++List.replicate (N.length - vs.length) none
noncomputable def ph (CX:MB)(P:Program)(w:World)(K:Frag)(mg:SV)(base:Heap)(N:LS)(qual:Str)(scope:Scope)(f:Addr)(cd:Value)(A:Around)(outer:List Env)(s:Shared)(H:Hp)(E:XK):Cx where
 prog:=P
 w:=w
 K:=K
 mg:=mg
 base:=base
 A:=A.deeper (envOfC qual scope s.heap.objs.size f cd)
 N:=N
 s₀:=s
 H₀:=H
 env:=envOfC qual scope s.heap.objs.size f cd
 outer:=outer
 stack:=envOfC qual scope s.heap.objs.size f cd::outer
 ex:=[]
 calm:=true
 fn:=λ_=>true
 pn:=[]
 xe:=λe s'=>wpAny (model P w) (A.deeper (envOfC qual scope s.heap.objs.size f cd)) (leaving (envOfC qual scope s.heap.objs.size f cd) e) (λ_ G=>CX outer H s E e G) (λM G=>CX outer H s E M G) s'
theorem zq {sc:Scope}{n:Nat}{x:Str}(h:sc.names.lookup x=some .cell):∃c,(cellsFrom n sc.names []).lookup x=some c:=by
 have q:=PySem.W.cellsFrom_some sc.names n [] (.inl h);exact uU q
theorem EN {CX:MB}{P:Program}{w:World}{K:Frag}{mg:SV}{base:Heap}{N ps:LS}{qual:Str}{scope:Scope}{f:Addr}{cd:Value}{A:Around}{outer:List Env}{s s1:Shared}{H:Hp}{E:XK}{us:LU}{vs:List V}
  (S:FnScope N ps scope) (hd:A.handled=none) (G:Env0 P w K mg base A outer s H) (hl:vs.length=ps.length) (r:bg vs us)
  (x:InCallC s s.heap.objs.size (bindL (envOfC qual scope s.heap.objs.size f cd).kindOf (ps.zip us) λ_=>none) (cellsFrom (s.heap.objs.size+1) scope.names []) (bindC (envOfC qual scope s.heap.objs.size f cd).kindOf (ps.zip us) λ_=>none) s1):
  Inv (ph CX P w K mg base N qual scope f cd A outer s H E) [] (kR N vs) H s1:=by
 have T:ps.length<=N.length:=by have:=congrArg List.length S.pre;grind
 obtain⟨h1,tk,rfl,hk⟩:=x.done;have M:∀b:Addr,b∉(ph CX P w K mg base N qual scope f cd A outer s H E).ex:=λb z=>absurd (show b∈([]:List Addr)from z) N9;refine⟨⟨G.mod,S.kind,rfl,rfl,vT _,λy z c h1 h2=>?_,λy hy=>?_,λy c _ h=>?_,λ_=>hd,Around.frames_deeper G.frames,.inr ⟨rfl,rfl⟩,λb z=>absurd z (M b),G.bs,G.bsz,λb _ _=>M b,λb z=>absurd z (M b),G.funs,G.frf⟩,
  rfl,G.bare,Un.kept hk,⟨_,x.toInCall.ns,λi y v h1 h2 h3=>?_⟩,λy c h=>⟨_,x.cell y c h⟩,G.hok.fresh (vT _),λy c h=>?_,λp hp=>absurd (show p∈([]:AO)from hp) N9,G.hok.kept hk,?_⟩
 .exact name_of_addr x.apart (PySem.mem_of_lookup h1) (PySem.mem_of_lookup h2)
 .have hy:scope.names.lookup y=some .cell\/scope.names.lookup y=some .free:=hy;rcases hy with hy|hy
  .exact zq hy
  .exact absurd rfl (S.nofree _ (PySem.mem_of_lookup hy))
 .exact le_of_lt (x.above y c (PySem.mem_of_lookup h))
 .have hi:i<vs.length:=by
   unfold kR at h2;by_cases hi:i<vs.length
   .exact hi
   .rw[getElem?_append_right (by simpa using hi)]at h2;rw[List.getElem?_replicate]at h2;split at h2<;>cases h2
  have ha:vs[i]? = some v:=by
   simp_all[kR,getElem?_append_left]
  obtain⟨u,hu,U⟩:=r.get ha;have hp:ps[i]? = some y:=by
   rw[<-S.pre,List.getElem?_take_of_lt M9];exact h1
  have O:ps.Nodup:=by rw[<-S.pre];exact S.nd.sublist (take_sublist _ _)
  refine⟨u,U,?_⟩;rcases S.par y (vL hp)with k|k
  .exact .inl ⟨k,wc O hp hu k⟩
  .obtain⟨c,e⟩:=zq (n:=s.heap.objs.size+1) k;refine .inr ⟨.inl k,c,e,?_⟩;have q:=x.cell y c e;rw[we O hp hu (by show scope.names.lookup y≠_;rw[k];decide)]at q;exact q
 .exact G.hok.fresh (le_of_lt (x.above y c (PySem.mem_of_lookup h)))
 .unfold kR;show _=N.length;simp_all
theorem G9 {CX:MB}{P:Program}{w:World}{K:Frag}{mg:SV}{base:Heap}{k:Nat}{f:Addr}{name qual:Str}{params:Arguments}{G:List Stmt}{scope:Scope}{d kV doc pm dv ct oc:Value}{an od:Option Addr}
  {mv:Array (Option Value)}{N ps:LS}{sp:Sp}(i:K.lookup f=some ⟨oc,od,.func (fnOf name qual params G scope d kV doc pm an dv ct),mv⟩) (j:PySem.W.codeIn K dv qual=true) (S:FnScope N ps scope)
  (len:∀vs H Q E,sp vs H Q E->vs.length=ps.length)
  (O:∀(A:Around)(outer:List Env)(s:Shared)(H:Hp)(vs:List V)(Q:VK)(E:XK),eU k (A.deeper (envOfC qual scope s.heap.objs.size f dv))->sp vs H Q E ->
   ∃t,uR (ph CX P w K mg base N qual scope f dv A outer s H E) G t/\t { nx:=λ_ H'=>Q .non H',rt:=Q } (kR N vs) H):
  uM P w K mg base CX (k+1) f (fnOf name qual params G scope d kV doc pm an dv ct) ps sp:=by
 refine⟨len,λA outer s H args us vs Q E a U hb r g=>?_⟩;have hl:=len _ _ _ _ g;have h:K.In s.heap:=U.mod.kin.keeps λb o e=>(U.bs b o e).1;have l:s.heap.NoLimit:=U.mod.nolimit.keeps λb o e=>(U.bs b o e).1;have T:∀y∈ps.zip us,scope.names.lookup y.1=some .local\/(scope.names.lookup y.1=some .cell/\((cellsFrom (s.heap.objs.size+1) scope.names []).lookup y.1).isSome=true):=λ⟨n,v⟩ hy=>by
  rcases S.par n (of_mem_zip hy).1 with q|q
  .exact .inl q
  .exact .inr ⟨q,PySem.W.cellsFrom_some _ _ _ (.inl q)⟩
 refine codeAny_call_function a.depth (h _ _ i) rfl S.co S.gen rfl (PySem.W.codeRec_of h j) (hb _ _ _ _ ?_);refine wpAny_newFunctionEnv_cells S.kind T λenv he s1 x=>?_;subst he;refine⟨l.keeps x.toInCall.keep,codeAny_func ?_⟩;obtain⟨t,m,hq⟩:=O A outer s H vs Q E (a.deeper _) g;have I:Inv (ph CX P w K mg base N qual scope f dv A outer s H E) [] (kR N vs) H s1:=EN S a.hd U hl r x;refine wpAny_mono (m [] s1 (kR N vs) H _ I hq) (λfl s' hs=>?_) λe s' hs=>hs;have gz:∀ {M:St}{H':Hp}{v:V}{u:Value},Inv (ph CX P w K mg base N qual scope f dv A outer s H E) [] M H' s'->aX v u->Q v H'->CE outer P w H s Q u s' :=
  λ{M H' v u} J c q=>⟨v,H',J.os,J.bare,J.base,J.hok,c,q⟩
 cases fl with
 |ret u=>
  obtain⟨v,M,H',J,c,q⟩:=hs;exact gz J c q
 |next=>
  obtain⟨M,H',J,q⟩:=hs;exact gz (v:=V.non) (u:=Value.none) J rfl q
 |brk=>
  obtain⟨_,_,_,q⟩:=hs;simp_all
 |cont=>
  obtain⟨_,_,_,q⟩:=hs;simp_all
section
variable {X:Cx}{x:Str}{p pos:Pos}{e:Expr}{es:QD}{t:TA}{id T:String}{r:List V->Hp->VK->Prop}
def VT (r:List V->Hp->VK->Prop)(t:TA):TE:=λσ H Q=>t σ H λvs G=>r vs G Q
theorem rj (hc:cn X (.builtin id) r)(O:Gl X x)(hm:X.mg x=none)(hv:bootBuiltins x=some (.builtin id))(ha:PA X (e::es) t)(hn:x ≠ "__name__":=by decide)(G:(x == ("__debug__" : Str))=false:=by decide)
  (he:starEach (e::es) X.env=(false,eval e X.env)::starEach es X.env:=by rfl) (M:(backTo pos (starEach es X.env)).any (·.1)=false:=by rfl):PE X (.Call (.Name x p) (e::es) [] pos) (VT r t):=by
 intro ag s σ H Q I h;refine wpAny_Call_Name_kw (hV I O hm hv ?_ hn G);exact PyProof.Rows.callWith_builtin1 (c7 (ha pos ag s σ H _ I h) λus s1 ⟨vs,U,a,b,c⟩=>hc ag s1 σ U vs us Q a b c) he M
theorem pi (hc:cn X (.type T) r)(O:Gl X x)(hm:X.mg x=none)(hv:bootBuiltins x=some (.type T))(ha:PA X (e::es) t)(hn:x ≠ "__name__":=by decide)(G:(x == ("__debug__" : Str))=false:=by decide)
  (he:starEach (e::es) X.env=(false,eval e X.env)::starEach es X.env:=by rfl) (M:(backTo pos (starEach es X.env)).any (·.1)=false:=by rfl):PE X (.Call (.Name x p) (e::es) [] pos) (VT r t):=by
 intro ag s σ H Q I h;refine wpAny_Call_Name_kw (hV I O hm hv ?_ hn G);exact PyProof.Rows.callWith_type1 (c7 (ha pos ag s σ H _ I h) λus s1 ⟨vs,U,a,b,c⟩=>hc ag s1 σ U vs us Q a b c) he M
end
end L2
namespace HT
open PySem PyProof.Rows
section
open PySem.SeqAt
open PySem.AutoSeq1 (wpAny_loadPart')
open PySem.MeetsSeq PySem.MeetsSeq2 PySem.MeetsSeq3
end
section
variable {prog:Program}{w:World}{A:Around}{E:QV}{s:Shared}
theorem Kv (c:IsTup s.heap t vs.toArray)(hb:IsTup s.heap b ws.toArray)(hv:vs≠[])
  (h1:ws=[]->Q (.ref t) s) (h2:ws≠[]->Q (.ref s.heap.objs.size) { s with heap:=s.heap.push { cls:=.type "tuple",data:=.seq (vs++ws).toArray } })
  (hsz:vs.length+ws.length<=sizeLine):wpAny (model prog w) A (binaryOp .Add (.ref t) (.ref b)) Q E s:=by
 obtain⟨⟨cls,dd,data,sl⟩,a,hc,n,hd⟩:=id c;obtain⟨⟨d,M,data2,O⟩,G,T,n2,U⟩:=id hb;simp only at hc hd T U;subst hc hd T U;have e:vs.toArray++ws.toArray=(vs++ws).toArray:=N9
 by_cases hw:ws=[]
 .exact concat_meets ⟨_,a,rfl⟩ ⟨_,G,rfl⟩ noFill_tuple_add seq_tuple_add slot_tuple_add PySem.F.entry_tuple_add (PySem.F.args_tuple_add_2 _ _)
   (tuple_addW1 t b vs.toArray ws.toArray n n2 dd M sl O (by simpa using hv) (by simp[hw])) ⟨a,G,h1 hw⟩
 .refine concat_meets ⟨_,a,rfl⟩ ⟨_,G,rfl⟩ noFill_tuple_add seq_tuple_add slot_tuple_add PySem.F.entry_tuple_add (PySem.F.args_tuple_add_2 _ _)
   (tuple_addW2 t b vs.toArray ws.toArray n n2 dd M sl O (by simpa using hv) (by simpa using hw) (by simp_all)) ⟨a,G,?_⟩
  rw[e];exact h2 hw
noncomputable def eV (n d:Nat):OI->Nat
 |none=>d
 |some v=>if v<0 then (v+(n:Int)).toNat else min v.toNat n
theorem GA (n d:Nat):eV n d none=d:=rfl
theorem Kw (n d k:Nat):eV n d (some (k:Int))=min k n:=by
 rfl
theorem Oa (n d:Nat)(hd:d<=n)(o:OI):eV n d o<=n:=by
 cases o with
 |none=>exact hd
 |some v=>
  show(if v<0 then (v+(n:Int)).toNat else min v.toNat n)<=n;by_cases hv:v<0
  .rw[if_pos hv];lia
  .rw[if_neg hv];exact Nat.min_le_right _ _
theorem CZ (v:Int)(n d:Nat):(if v<0 then max (v+(n:Int)) 0 else min v (n:Int))=((eV n d (some v):Nat):Int):=by
 show(if v<0 then max (v+(n:Int)) 0 else min v (n:Int))=(((if v<0 then (v+(n:Int)).toNat else min v.toNat n):Nat):Int);grind
theorem BH (lo hi:OI)(n:Nat):Builtin.Slice.sliceAdjust lo hi 1 (n:Int)=(((eV n 0 lo:Nat):Int),((eV n n hi:Nat):Int)):=by
 have h1:¬((1:Int)<0):=M9
 unfold Builtin.Slice.sliceAdjust;simp only[h1,if_false];refine Prod.ext ?_ ?_
 .cases lo with
  |none=>rfl
  |some v=>exact CZ v n 0
 .cases hi with
  |none=>rfl
  |some v=>exact CZ v n n
theorem BI (i j:Nat):Builtin.Slice.slicePlaces (i:Int) (j:Int) 1=j - i:=by
 unfold Builtin.Slice.slicePlaces;simp<;>lia
theorem rm (p:IsPart v o)(h:Q o s):wpAny (model prog w) A (Builtin.Slice.slicePartIndex v) Q E s:=by
 cases p with
 |none=>exact slicePart_none h
 |int i t=>exact slicePart_int h
theorem jA {sl:Addr}{vl O:Value}{lo hi:OI}{n:Nat}{Q:Int×Int×Nat->Shared->Prop}(hs:s.heap.IsSliceOf sl vl O .none)(pl:IsPart vl lo)(T:IsPart O hi)
  (h:Q (((eV n 0 lo:Nat):Int),1,eV n n hi - eV n 0 lo) s):wpAny (model prog w) A (Builtin.Slice.sliceApplied (.ref sl) (pure (n:Int))) Q E s:=by
 obtain⟨os,G,U,M⟩:=id hs;unfold Builtin.Slice.sliceApplied Builtin.Slice.sliceFields;refine wX (wX (wpAny_field G M (x:=vl) rfl (wX (wpAny_field G M (x:=O) rfl (wX (wpAny_field G M (x:=.none) rfl (wY ?_)))))));refine wX (slicePart_none ?_);show wpAny _ _ (if((1:Int) == 0)=true then _ else _) _ _ s;rw[if_neg V9];refine wX (rm pl (wX (rm T (wX (wY ?_)))));show wpAny _ _ (match Builtin.Slice.sliceAdjust lo hi 1 (n:Int) with|(lo,hi)=>pure (lo,(1:Int),Builtin.Slice.slicePlaces lo hi 1)) _ _ s;rw[BH lo hi n];show wpAny _ _ (pure (((eV n 0 lo:Nat):Int),(1:Int),Builtin.Slice.slicePlaces ((eV n 0 lo:Nat):Int) ((eV n n hi:Nat):Int) 1)) _ _ s;rw[BI];exact wY h
theorem GB (xs:AV)(i k:Nat):((List.range k).filterMap λ(m:Nat)=>xs[((i:Int)+(m:Int)*1).toNat]?).toArray=((xs.toList.drop i).take k).toArray:=by
 have e:(λ(m:Nat)=>xs[((i:Int)+(m:Int)*1).toNat]?)=λm=>xs[i+m]?:=by
  funext m;have:((i:Int)+(m:Int)*1).toNat=i+m:=M9
  rw[this]
 rw[e];have:=pick_run xs i k;rw[List.filterMap_map]at this;have e2:((λx=>xs[x]?) ∘ λx=>i+x)=λm=>xs[i+m]?:=rfl;simp_all
theorem nH {t sl:Addr}{items:AV}{vl a:Value}{lo hi:OI}{Q:QV}(M:IsTup s.heap t items)(hs:s.heap.IsSliceOf sl vl a .none)(pl:IsPart vl lo)(b:IsPart a hi)
  (hw:¬(eV items.size 0 lo=0/\eV items.size items.size hi=items.size))
  (h:Q (.ref s.heap.objs.size) { s with heap:=s.heap.push { cls:=.type "tuple",data:=.seq ((items.toList.drop (eV items.size 0 lo)).take (eV items.size items.size hi - eV items.size 0 lo)).toArray } })
  (hsz:items.size<=sizeLine):wpAny (model prog w) A (getItem (.ref t) (.ref sl)) Q E s:=by
 have G:sizeOk (.seq ((items.toList.drop (eV items.size 0 lo)).take (eV items.size items.size hi - eV items.size 0 lo)).toArray):=by
  show((items.toList.drop (eV items.size 0 lo)).take (eV items.size items.size hi - eV items.size 0 lo)).toArray.size<=sizeLine
  simp<;>lia
 have hj:eV items.size items.size hi<=items.size:=Oa _ _ (vT _) hi
 obtain⟨os,O,T,d⟩:=id hs
 have U:s.TypeIs (.ref sl) "slice":=⟨os,O,T⟩
 unfold getItem
 try with_reducible refine wpAny_holding ?_
 first|refine wX (wY ?_)|skip
 refine wX (wpAny_sequenceKey M.typeIs V9 ?_)
 refine wX (wpAny_callSpecial?_slot (name:=Str.ofString "__getitem__") M.typeIs PyProof.Rows.slot_tuple_getitem
  (wpAny_call_entry PyProof.Rows.slot_tuple_getitem M.typeIs entry_tuple_getitem ?_ (args_tuple_getitem _ _)))
 show wpAny _ _ (Builtin.Tuple.tupleItemsOf (.ref t)>>=_) _ _ s
 refine wX (tupleItemsOf_ M ?_)
 refine wX (wpAny_typeOf U ?_)
 rw[if_pos V9]
 refine wX (jA hs pl b ?_)
 have c:¬((((eV items.size 0 lo:Nat):Int) == 0 && (1:Int) == 1 && (eV items.size items.size hi - eV items.size 0 lo) == items.size)=true):=by
  simp_all
 show wpAny _ _ (if(((eV items.size 0 lo:Nat):Int) == 0 && (1:Int) == 1 && (eV items.size items.size hi - eV items.size 0 lo) == items.size)=true then _ else _) _ _ s
 rw[if_neg c,GB]
 first
  |exact wX (m:=Builtin.Tuple.tupleExact _) (wpAny_newObj_type (wY ⟨_,rfl,wY h⟩) G)
  |exact wX (m:=Builtin.Tuple.tupleExact _) (wpAny_newObj_type (wX (wY (wY ⟨_,rfl,wY h⟩))) G)
  |exact wX (wX (m:=Builtin.Tuple.tupleExact _) (wpAny_newObj_type (wY (wY ⟨_,rfl,wY h⟩)) G))
  |exact wX (wX (m:=Builtin.Tuple.tupleExact _) (wpAny_newObj_type (wY ⟨_,rfl,wY h⟩) G))
end
end HT
namespace L2
open PySem PySem.Spec PyProof.Rows
abbrev TO:=St->Hp->(OI->Hp->Prop)->Prop
def PO (X:Cx)(e:Option Expr)(t:TO):Prop :=
 ∀(ag:AO)(s:Shared)(σ:St)(H:Hp)(Q:OI->Hp->Prop),Inv X ag σ H s->t σ H Q ->
  wq X (evalPart e X.env) (λu s'=>∃o H',Inv X ag σ H' s'/\IsPart u o/\Q o H') X.xe s
def Kx:TO:=λ_ H Q=>Q none H
def QU (t:TE):TO:=λσ H Q=>t σ H λx G=>∃i,x=.int i/\Q (some i) G
section
variable {X:Cx}{e:Expr}{te:TE}{lo hi:Option Expr}{tl th:TO}{pos p2:Pos}
theorem Ky:PO X none Kx:=by
 intro ag s σ H Q I h;rw[evalPart_none];exact wY ⟨none,H,I,.none,h⟩
theorem Kz (h:PE X e te):PO X (some e) (QU te):=by
 intro ag s σ H Q I hw;rw[evalPart_some];refine c7 (h ag s σ H _ I hw) λu s1 ⟨x,G,M,O,T⟩=>?_;obtain⟨i,rfl,q⟩:=T;obtain⟨t,rfl⟩:=O;exact⟨some i,G,M,.int i t,q⟩
def Gr (X:Cx)(r:V->OI->OI->Hp->VK->Prop):Prop :=
 ∀(ag:AO)(s:Shared)(σ:St)(H:Hp)(x:V)(v vl G:Value)(lo hi:OI)(sl:Addr)(Q:VK),Inv X ag σ H s->aX x v->s.heap.IsSliceOf sl vl G .none->IsPart vl lo->IsPart G hi->r x lo hi H Q ->
  ∃T id,typeLookup (.type T) "__getitem__" = pure (some (.builtin id))/\s.TypeIs v T/\wq X (getItem v (.ref sl)) (EP X ag σ Q) X.xe s
theorem Gr.or (h:Gr X r)(h':Gr X T):Gr X (λx lo hi H Q=>r x lo hi H Q\/T x lo hi H Q):=by
 intro ag s σ H x v vl G lo hi sl Q I M hs pl O q;rcases q with q|q
 .exact h ag s σ H x v vl G lo hi sl Q I M hs pl O q
 .exact h' ag s σ H x v vl G lo hi sl Q I M hs pl O q
def X6 (r:V->OI->OI->Hp->VK->Prop)(te:TE)(tl th:TO):TE:=λσ H Q=>te σ H λx G=>tl σ G λl H2=>th σ H2 λu M=>r x l u M Q
theorem GC (U:Gr X r)(he:PE X e te)(hl:PO X lo tl)(hu:PO X hi th):PE X (.Subscript e (.Slice lo hi none p2) pos) (X6 r te tl th):=by
 intro ag s σ H Q I h;refine Subscript_ (c7 (he ag s σ H _ I h) λv s1 ⟨x,a,c,d,f⟩=>?_);refine wpAny_Slice (c7 (hl ag s1 σ a _ c f) λvl s2 ⟨l,H2,g,pl,i⟩=>c7 (hu ag s2 σ H2 _ g i) λM G ⟨u,O,j,k,m⟩=>?_);rw[evalPart_none];refine wY ?_;have n:Inv X ag σ O { G with heap:=G.heap.push { cls:=.type "slice",data:=.fields #[vl,M,.none] } }:=j.kept (t':=G.toks) λb ob q=>vZ _ q;obtain⟨T,id,o,p,t⟩:=U ag { G with heap:=G.heap.push { cls:=.type "slice",data:=.fields #[vl,M,.none] } } σ O x v vl M l u G.heap.objs.size Q n d (Heap.IsSliceOf.new ..) pl k m;show wq X (subscriptTail e (.Slice lo hi none p2) v (.ref G.heap.objs.size)) (EP X ag σ Q) X.xe { G with heap:=G.heap.push { cls:=.type "slice",data:=.fields #[vl,M,.none] } };exact tail_any (ops:=[.ref G.heap.objs.size,v]) p o t (by with_unfolding_all rfl)
def vc (xs:List V)(lo hi:OI):List V:=(xs.drop (HT.eV xs.length 0 lo)).take (HT.eV xs.length xs.length hi - HT.eV xs.length 0 lo)
theorem pV (xs:List V)(lo hi:OI):(vc xs lo hi).length<=xs.length:=by
 unfold vc;rw[length_take,List.length_drop];lia
def TY (K:Frag):V->OI->OI->Hp->VK->Prop:=λx lo hi H Q=>∃a xs,x=.ref a/\jw K H a xs /\
 ¬(HT.eV xs.length 0 lo=0/\HT.eV xs.length xs.length hi=xs.length)/\∀p,H p=none->Q (.ref p) (upd H p (.tup (vc xs lo hi)))
theorem Ob:Gr X (TY X.K):=by
 intro ag s σ H x v vl U lo hi sl Q I O hs pl T h;obtain⟨a,xs,rfl,hx,hw,q⟩:=h;cases O
 obtain⟨its,r,M,hz⟩:=I.tuple hx;have G:its.toArray.size=xs.length:=by rw[vH];exact r.length.symm
 refine⟨"tuple",_,PyProof.Rows.slot_tuple_getitem.lookup,M.typeIs,?_⟩;refine HT.nH M hs pl T (by rw[G];exact hw) ?_ (by rw[G];exact hz);rw[G];refine⟨.ref s.heap.objs.size,_,I.laid (t':=s.toks) (o:=.tup (vc xs lo hi)) (λb ob q=>vZ _ q) (vT _) ?_,rfl,q _ (I.hok.fresh (vT _))⟩;exact⟨vR (pV xs lo hi) hz,_,(r.drop (HT.eV xs.length 0 lo)).take (HT.eV xs.length xs.length hi - HT.eV xs.length 0 lo),IsTup.new _ _⟩
def QW (K:Frag):R2:=λx y H Q=>∃a b xs ys,x=.ref a/\y=.ref b/\jw K H a xs/\jw K H b ys/\xs≠[]/\xs.length+ys.length<=sizeLine /\
 (ys=[]->Q (.ref a) H)/\(ys≠[]->∀p,H p=none->Q (.ref p) (upd H p (.tup (xs++ys))))
theorem bg.nil_iff (r:bg xs us):us=[]↔xs=[]:=by
 cases r with
 |nil=>simp
 |cons _ _=>simp
theorem K0:dU X (binaryOp .Add) (QW X.K):=by
 intro ag s σ H x y v u Q I T U h;obtain⟨a,b,xs,ys,rfl,rfl,ha,hb,hx,hz,c,d⟩:=h;cases T
 cases U
 obtain⟨its,M,f,_⟩:=I.tuple ha;obtain⟨O,G,p2,_⟩:=I.tuple hb;refine HT.Kv f p2 (λz=>hx (M.nil_iff.mp z)) (λz=>⟨.ref a,H,I,rfl,c (G.nil_iff.mp z)⟩) (λz=>?_) (by rw[<-M.length,<-G.length];exact hz);refine⟨.ref s.heap.objs.size,_,I.laid (t':=s.toks) (o:=.tup (xs++ys)) (λb ob q=>vZ _ q) (vT _) ?_,rfl,d (λw=>z (G.nil_iff.mpr w)) _ (I.hok.fresh (vT _))⟩;exact⟨by rw[uZ];exact hz,_,M.append G,IsTup.new _ _⟩
end
noncomputable def GD (n:Nat)(i:Int):Option Nat:=if 0<=i then (if i<n then some i.toNat else none)else if -(n:Int)<=i then some (i+n).toNat else none
def pW {α:Type}(xs:List α)(i:Int):Option α:=(GD xs.length i).bind λj=>xs[j]?
theorem Db (h:GD n i=some j):seqIndex? i n=some j/\j<n/\-(n:Int)<=i/\i<n:=by
 unfold GD at h;by_cases h0:0<=i
 .rw[if_pos h0]at h;by_cases h1:i<n
  .rw[if_pos h1]at h;have e:i.toNat=j:=vK h;exact⟨by rw[seqIndex_of h0 h1,e],M9,M9,h1⟩
  simp_all
 .rw[if_neg h0]at h;by_cases h1 : -(n:Int)<=i
  .rw[if_pos h1]at h;have e:(i+n).toNat=j:=vK h;exact⟨by rw[seqIndex_neg M9 h1,e],M9,h1,M9⟩
  simp_all
theorem xQ {α:Type}{xs:List α}{i:Int}{v:α}(h:pW xs i=some v):∃j,seqIndex? i xs.length=some j/\xs[j]? = some v/\j<xs.length/\-(xs.length:Int)<=i/\i<xs.length:=by
 unfold pW at h;cases e:GD xs.length i with
 |none=>rw[e]at h;cases h
 |some j=>
  rw[e]at h;obtain⟨h1,h2,h3,h4⟩:=Db e;exact⟨j,h1,h,h2,h3,h4⟩
theorem K1 {α:Type}{xs:List α}{j:Nat}{v:α}(h:xs[j]? = some v):pW xs (j:Int)=some v:=by
 have hj:j<xs.length:=(vV h).1;simp_all[GD,pW]
def qQ (b:Expr):Prop:=∀o i,subscripted b false o i=operate [o,i] (getItem o i)
def GF (X:Cx)(r:R2):Prop :=
 ∀(M G:Expr)(ag:AO)(s:Shared)(σ:St)(H:Hp)(x y:V)(v u:Value)(Q:VK),Inv X ag σ H s->aX x v->aX y u->r x y H Q ->
  subscripted G false v u=operate [v,u] (getItem v u)->wq X (subscriptTail M G v u) (EP X ag σ Q) X.xe s
def K2 (X:Cx)(id:String)(r:V->List V->Hp->VK->Prop):Prop :=
 ∀(ag:AO)(s:Shared)(σ:St)(H:Hp)(x:V)(xs:List V)(v:Value)(us:LU)(Q:VK),Inv X ag σ H s->aX x v->bg xs us->r x xs H Q ->
  wq X (call (.builtin id) (v::us)) (EP X ag σ Q) X.xe s
section
variable {X:Cx}{a b:Expr}{ta tb:TE}{pos:Pos}
theorem GF.or (h:GF X r)(h':GF X U):GF X (λx y H Q=>r x y H Q\/U x y H Q):=by
 intro G M ag s σ H x y v u Q I O T q hs;rcases q with q|q
 .exact h G M ag s σ H x y v u Q I O T q hs
 .exact h' G M ag s σ H x y v u Q I O T q hs
theorem K2.or {id:String}{r G:V->List V->Hp->VK->Prop}(h:K2 X id r)(h':K2 X id G):K2 X id (λx xs H Q=>r x xs H Q\/G x xs H Q):=by
 intro ag s σ H x xs v us Q I M O q;rcases q with q|q
 .exact h ag s σ H x xs v us Q I M O q
 .exact h' ag s σ H x xs v us Q I M O q
theorem GG (G:GF X r)(ha:PE X a ta)(hb:PE X b tb)(hs:qQ b):PE X (.Subscript a b pos) (Tk r ta tb):=by
 intro ag s σ H Q I h;exact Subscript_ (NO ha hb I h λv u s2 x y H2 M O T q=>G a b ag s2 σ H2 x y v u Q M O T q (hs _ _))
def TZ (K:Frag):R2:=λx y H Q=>∃p xs i v,x=.ref p/\y=.int i/\ii K H p xs/\pW xs i=some v/\Q v H
def Ua (K:Frag):R2:=λx y H Q=>∃p xs i v,x=.ref p/\y=.int i/\jw K H p xs/\pW xs i=some v/\Q v H
def Ub:R2:=λx y H Q=>∃z i c,x=.str z/\y=.int i/\z.length<=sizeLine/\pW z.cps.toList i=some c/\Q (.str ⟨#[c]⟩) H
theorem K3:GF X (TZ X.K):=by
 intro G M ag s σ H x y v u Q I U c h hs;obtain⟨p,xs,i,z,rfl,rfl,hq,he,q⟩:=h;cases U
 obtain⟨t,rfl⟩:=c;obtain⟨its,r,pl,hz⟩:=I.list hq;obtain⟨j,h1,h2,h3,h4,h5⟩:=xQ he;obtain⟨w,T,O⟩:=r.get h2;have hl:=r.length;have hn:=pf;have gz:EP X ag σ Q w s:=⟨z,H,I,O,q⟩;by_cases h0:0<=i
 .have hj:i.toNat=j:=by
   rw[seqIndex_of h0 h5]at h1;exact vK h1
  exact item_listR pl.isList h0 M9 (by rw[hj];simpa using T) gz hs
 .have hj:(i+(its.toArray.size:Int)).toNat=j:=by
   rw[seqIndex_neg M9 h4]at h1;rw[vH,<-hl];exact vK h1
  exact subscriptTail_builtinR (x:=w) pl.isList.typeIs slot_list_getitem.lookup
   (wpAny_getItem_list_neg (Q:=λr s'=>r=w/\EP X ag σ Q r s') pl.isList M9 (by rw[vH]<;>lia) M9 (by rw[hj];simpa using T) ⟨rfl,gz⟩) hs
theorem GH:GF X (Ua X.K):=by
 intro G M ag s σ H x y v u Q I T U h hs;obtain⟨p,xs,i,z,rfl,rfl,hq,he,q⟩:=h;cases T
 obtain⟨t,rfl⟩:=U;obtain⟨its,r,pl,hz⟩:=I.tuple hq;obtain⟨j,h1,h2,h3,h4,h5⟩:=xQ he;obtain⟨w,c,O⟩:=r.get h2;have hl:=r.length;have hn:=pf;have gz:EP X ag σ Q w s:=⟨z,H,I,O,q⟩;exact subscriptTail_builtinR (x:=w) pl.typeIs slot_tuple_getitem.lookup
  (getItem_tuple (j:=j) (Q:=λr s'=>r=w/\EP X ag σ Q r s') pl M9 M9 (by simp_all) (by simpa using c) ⟨rfl,gz⟩) hs
theorem BJ:GF X Ub:=by
 intro G M ag s σ H x y v u Q I O T h hs;obtain⟨z,i,c,rfl,rfl,hz,he,q⟩:=h;obtain⟨t,rfl⟩:=O;obtain⟨t',rfl⟩:=T;obtain⟨j,h1,h2,h3,h4,h5⟩:=xQ he;have hl:z.cps.toList.length=z.length:=by simp[Str.length]
 rw[hl]at h1 h4 h5;have hn:=pf;exact tail_any (typeIs_str s z t) slot_str_getitem.lookup (getItem_str (c:=c) (by
  lia) (by rw[h1];simpa using h2) ⟨.str ⟨#[c]⟩,H,I.tok _,⟨_,rfl⟩,q⟩) hs
theorem BK (its:LU)(n j:Nat)(u:Value):Obj.mapSeq (·.setIfInBounds j u) { cls:=.type "list",data:=.seq its.toArray n }={ cls:=.type "list",data:=.seq (its.set j u).toArray n }:=by
 simp[Obj.mapSeq]
theorem Inv.lst (I:Inv X ag σ H s)(h:H p=some (.lst xs)):
  ∃(its:LU)(n:Nat),bg xs its/\s.heap.get? p=some { cls:=.type "list",data:=.seq its.toArray n }/\xs.length<=sizeLine:=by
 obtain⟨z,its,n,r,e⟩:=I.hok p _ h;exact⟨its,n,r,e,z⟩
theorem Inv.lstUpd {ag:AO}{σ:St}{H:Hp}{s:Shared}{p:Addr}{xs ys:List V}{its its':LU}{n G:Nat}{f:Obj->Obj}(I:Inv X ag σ H s)(h:H p=some (.lst xs))
  (M:s.heap.get? p=some { cls:=.type "list",data:=.seq its.toArray n }) (hf:f { cls:=.type "list",data:=.seq its.toArray n }={ cls:=.type "list",data:=.seq its'.toArray G }) (r:bg ys its') (hz:ys.length<=sizeLine) (t:Nat):
  Inv X ag σ (upd H p (.lst ys)) { s with heap:=s.heap.update p f,toks:=t }:=by
 have e:(s.heap.update p f).get? p=some { cls:=.type "list",data:=.seq its'.toArray G }:=by
  rw[Heap.get?_update_self f M (by rw[hf]<;>rfl),hf]
 refine I.write (x:=p) (e:=p) (by rw[h];trivial) (.inl rfl) (λb u hb q=>(Heap.get?_update_other _ _ (Ne.symm hb)).trans q) ⟨_,e⟩ ?_;exact⟨hz,its',G,r,e⟩
def QX:V->V->V->Hp->(Hp->Prop)->Prop:=λo i v H Q=>∃p xs k j,o=.ref p/\i=.int k/\H p=some (.lst xs)/\GD xs.length k=some j/\Q (upd H p (.lst (xs.set j v)))
theorem GI:QB X QX:=by
 intro ag s σ H o i v c iv u Q I O T U h;obtain⟨p,xs,k,j,rfl,rfl,hp,hj,q⟩:=h;cases O
 obtain⟨t,rfl⟩:=T;obtain⟨its,n,r,G,hz⟩:=I.lst hp;obtain⟨h1,h2,h3,h4⟩:=Db hj;have hl:=r.length;have hn:=pf;have M:Inv X ag σ (upd H p (.lst (xs.set j v))) { s with heap:=s.heap.update p (Obj.mapSeq (·.setIfInBounds j u)) } :=
  I.lstUpd hp G (BK its n j u) (r.set U j) (by rw[length_set];exact hz) s.toks
 by_cases h0:0<=k
 .have hk:k.toNat=j:=by
   rw[seqIndex_of h0 h4]at h1;exact vK h1
  exact PySem.W.ki_setAt G h0 M9 (by rw[vH,<-hl];exact h4) (by rw[hk];exact⟨_,M,q⟩)
 .have hk:(k+(its.toArray.size:Int)).toNat=j:=by
   rw[seqIndex_neg M9 h3]at h1;rw[vH,<-hl];exact vK h1
  exact PySem.W.ki_setBack G M9 (by rw[vH,<-hl];exact h3) M9 (by rw[hk];exact⟨_,M,q⟩)
theorem xR (lo hi:OI)(n:Nat):(sliceBounds lo hi none n).1=((HT.eV n 0 lo:Nat):Int)/\(sliceBounds lo hi none n).2.1=((HT.eV n n hi:Nat):Int)/\(sliceBounds lo hi none n).2.2=1:=by
 refine⟨?_,?_,rfl⟩
 .cases lo with
  |none=>simp[sliceBounds,HT.eV]
  |some i=>
   simp only[sliceBounds,HT.eV,Option.getD_none,show(1:Int) > 0 by decide,if_true];grind
 .cases hi with
  |none=>simp[sliceBounds,HT.eV]
  |some i=>
   simp only[sliceBounds,HT.eV,Option.getD_none,show(1:Int) > 0 by decide,if_true];by_cases h:i<0
   .simp only[h,if_true]<;>lia
   .simp only[h,if_false]<;>lia
theorem ve (its:LU)(lo hi:OI):slicePick its.toArray lo hi none=((its.drop (HT.eV its.length 0 lo)).take (HT.eV its.length its.length hi - HT.eV its.length 0 lo)).toArray:=by
 obtain⟨h1,h2,h3⟩:=xR lo hi its.toArray.size;unfold slicePick;rw[h1,h2,h3];simp only[sliceRange_one,pick_run,vH]<;>rfl
def Uc (K:Frag):V->OI->OI->Hp->VK->Prop:=λx lo hi H Q=>∃a xs,x=.ref a/\ii K H a xs/\∀p,H p=none->Q (.ref p) (upd H p (.lst (vc xs lo hi)))
theorem K4:Gr X (Uc X.K):=by
 intro ag s σ H x v vl U lo hi sl Q I O hs pl T h;obtain⟨a,xs,rfl,hx,q⟩:=h;cases O
 obtain⟨its,r,M,hz⟩:=I.list hx;have G:=r.length;refine⟨"list",_,slot_list_getitem.lookup,M.isList.typeIs,?_⟩;refine wpAny_getItem_list_slice M.isList hs pl T .none N9 ?_ (by rw[vH]<;>lia)
 rw[ve,<-G];refine⟨.ref s.heap.objs.size,_,I.laid (t':=s.toks) (o:=.lst (vc xs lo hi)) (λb ob q=>vZ _ q) (vT _) ?_,rfl,q _ (I.hok.fresh (vT _))⟩;exact⟨vR (pV xs lo hi) hz,_,0,(r.drop (HT.eV xs.length 0 lo)).take (HT.eV xs.length xs.length hi - HT.eV xs.length 0 lo),vY _ rfl⟩
noncomputable def m5:V->Bool
 |.non=>true
 |.bl _=>true
 |.int _=>true
 |.str _=>true
 |_=>false
noncomputable def K5:V->V->Bool
 |.non,.non=>true
 |.bl a,.bl b=>a == b
 |.bl a,.int b=>(if a then 1 else 0) == b
 |.int a,.bl b=>a == (if b then 1 else 0)
 |.int a,.int b=>a == b
 |.str a,.str b=>a == b
 |_,_=>false
theorem Oc (M:aX y u)(G:aX x v)(O:m5 y=true)(fx:m5 x=true):SeqAt.EqAt A s u v (K5 y x):=by
 cases y with
 |non=>
  cases M
  cases x with
  |non=>cases G;exact SeqAt.EqAt.same _
  |bl b=>cases G;exact SeqAt.EqAt.none_bool b
  |int b=>obtain⟨t,rfl⟩:=G;exact SeqAt.EqAt.none_int b t
  |str b=>obtain⟨t,rfl⟩:=G;exact SeqAt.EqAt.none_str b t
  |_=>exact absurd (show false=true from fx) uX
 |bl a=>
  cases M
  cases x with
  |non=>cases G;exact SeqAt.EqAt.bool_none a
  |bl b=>cases G;exact SeqAt.EqAt.bool_bool a b
  |int b=>obtain⟨t,rfl⟩:=G;exact SeqAt.EqAt.bool_int a b t
  |str b=>obtain⟨t,rfl⟩:=G;exact SeqAt.EqAt.bool_str a b t
  |_=>exact absurd (show false=true from fx) uX
 |int a=>
  obtain⟨t',rfl⟩:=M;cases x with
  |non=>cases G;exact SeqAt.EqAt.int_none a t'
  |bl b=>cases G;exact SeqAt.EqAt.int_bool a t' b
  |int b=>obtain⟨t,rfl⟩:=G;exact SeqAt.EqAt.int_int a t' b t
  |str b=>obtain⟨t,rfl⟩:=G;exact SeqAt.EqAt.int_str a t' b t
  |_=>exact absurd (show false=true from fx) uX
 |str a=>
  obtain⟨t',rfl⟩:=M;cases x with
  |non=>cases G;exact SeqAt.EqAt.str_none a t'
  |bl b=>cases G;exact SeqAt.EqAt.str_bool a t' b
  |int b=>obtain⟨t,rfl⟩:=G;exact SeqAt.EqAt.str_int a t' b t
  |str b=>obtain⟨t,rfl⟩:=G;exact SeqAt.EqAt.str_str a t' b t
  |_=>exact absurd (show false=true from fx) uX
 |_=>exact absurd (show false=true from O) uX
def BL (x:V)(u:Value):Bool:=match u with
 |.none=>K5 .non x
 |.bool b=>K5 (.bl b) x
 |.int i _=>K5 (.int i) x
 |.str z _=>K5 (.str z) x
 |_=>false
theorem GJ (r:aX y u)(f:m5 y=true):BL x u=K5 y x:=by
 cases y with
 |non=>cases r;rfl
 |bl b=>cases r;rfl
 |int i=>obtain⟨t,rfl⟩:=r;rfl
 |str z=>obtain⟨t,rfl⟩:=r;rfl
 |_=>exact absurd (show false=true from f) uX
theorem nI:∀ {xs:List V}{us:LU},bg xs us->xs.all m5=true->us.any (BL x)=xs.any λy=>K5 y x
 |_,_,.nil,_=>rfl
 |y::xs,u::us,.cons r t,f=>by
  rw[all_cons,vC]at f;rw[any_cons,any_cons,GJ r f.1,nI t f.2]
theorem ln (G:aX x v)(fx:m5 x=true):∀ {xs:List V}{us:LU},bg xs us->xs.all m5=true->∀u∈us,SeqAt.EqAt A s u v (BL x u)
 |_,_,.nil,_=>λu hu=>by cases hu
 |y::xs,u::us,.cons r t,f=>λu' hu=>by
  rw[all_cons,vC]at f;rcases vP hu with rfl|hu
  .rw[GJ r f.1];exact Oc r G f.1 fx
  .exact ln G fx t f.2 u' hu
noncomputable def Tl (x:V)(xs:List V):Bool:=xs.any λy=>K5 y x
def VU (K:Frag)(G:Bool):R2:=λx y H Q=>∃p xs,y=.ref p/\(ii K H p xs\/jw K H p xs)/\m5 x=true/\xs.all m5=true/\Q (.bl (if G then !Tl x xs else Tl x xs)) H
theorem EO:dU X (compareOp .In) (VU X.K false):=by
 intro ag s σ H x y v u Q I G M h;obtain⟨p,xs,rfl,hq,fx,fs,q⟩:=h;cases M
 rcases hq with hq|hq
 .obtain⟨its,r,pl,hz⟩:=I.list hq;refine SeqAt.in_listAt (BL x) pl.isList (λw hw=>ln G fx r fs w (by simpa using hw)) ⟨.bl _,H,I,rfl,?_⟩;rw[show its.toArray.any (BL x)=its.any (BL x) by simp,nI r fs];exact q
 .obtain⟨its,r,pl,hz⟩:=I.tuple hq;refine SeqAt.in_tupleAt (BL x) pl (λw hw=>ln G fx r fs w (by simpa using hw)) ⟨.bl _,H,I,rfl,?_⟩;rw[show its.toArray.any (BL x)=its.any (BL x) by simp,nI r fs];exact q
theorem xS:dU X (compareOp .NotIn) (VU X.K true):=by
 intro ag s σ H x y v u Q I G M h;obtain⟨p,xs,rfl,hq,fx,fs,q⟩:=h;cases M
 rcases hq with hq|hq
 .obtain⟨its,r,pl,hz⟩:=I.list hq;refine SeqAt.notIn_listAt (BL x) pl.isList (λw hw=>ln G fx r fs w (by simpa using hw)) ⟨.bl _,H,I,rfl,?_⟩;rw[show its.toArray.any (BL x)=its.any (BL x) by simp,nI r fs];exact q
 .obtain⟨its,r,pl,hz⟩:=I.tuple hq;refine SeqAt.notIn_tupleAt (BL x) pl (λw hw=>ln G fx r fs w (by simpa using hw)) ⟨.bl _,H,I,rfl,?_⟩;rw[show its.toArray.any (BL x)=its.any (BL x) by simp,nI r fs];exact q
theorem xT:cn X (.builtin "len") (λxs H Q=>∃p ys,xs=[.ref p]/\(ii X.K H p ys\/jw X.K H p ys)/\Q (.int ys.length) H):=by
 intro ag s σ H xs us Q I r h;obtain⟨p,ys,rfl,hq,q⟩:=h;obtain⟨u,rfl,O⟩:=ij r;cases O
 have hn:=pf;rcases hq with hq|hq
 .obtain⟨its,M,pl,hz⟩:=I.list hq;have G:=M.length;exact Calls.call_len_list pl.isList (by grind) ⟨.int ys.length,H,I.tok _,⟨s.toks+1,by rw[vH,G]⟩,q⟩
 .obtain⟨its,M,pl,hz⟩:=I.tuple hq;have G:=M.length;exact len_tuple pl (by simp only[vH]<;>lia) ⟨.int ys.length,H,I.tok _,⟨s.toks+1,by rw[vH,G]⟩,q⟩
theorem xU:cn X (.builtin "len") (λxs H Q=>∃z,xs=[.str z]/\z.length<=sizeLine/\Q (.int z.length) H):=by
 intro ag s σ H xs us Q I r h;obtain⟨z,rfl,hz,q⟩:=h;obtain⟨u,rfl,t,rfl⟩:=ij r;have hn:=pf;exact len_str M9 ⟨.int z.length,H,I.tok _,⟨_,rfl⟩,q⟩
theorem cn.or (h:cn X f r)(h':cn X f M):cn X f (λxs H Q=>r xs H Q\/M xs H Q):=by
 intro ag s σ H xs us Q I G q;rcases q with q|q
 .exact h ag s σ H xs us Q I G q
 .exact h' ag s σ H xs us Q I G q
theorem xV:cn X (.type "list") (λxs H Q=>∃p ys,xs=[.ref p]/\(ii X.K H p ys\/jw X.K H p ys)/\∀l,H l=none->Q (.ref l) (upd H l (.lst ys))):=by
 intro ag s σ H xs us Q I r h;obtain⟨p,ys,rfl,hq,q⟩:=h;obtain⟨u,rfl,U⟩:=ij r;cases U
 have gz:∀(its:LU),bg ys its->ys.length<=sizeLine->∀(h':Heap)(G:Nat),(∀b o',s.heap.get? b=some o'->h'.get? b=some o') ->
   h'.get? s.heap.objs.size=some { cls:=.type "list",dict:=none,data:=.seq its.toArray G,slots:=#[] }->EP X ag σ Q (.ref s.heap.objs.size) { s with heap:=h' }:=λits M hz h' G kp e=>
  ⟨.ref s.heap.objs.size,_,I.laid (t':=s.toks) kp (vT _) (show bP X.prog X.w _ h' _ (.lst ys)from ⟨hz,its,G,M,e⟩),rfl,q _ (I.hok.fresh (vT _))⟩
 rcases hq with hq|hq
 .obtain⟨its,M,pl,hz⟩:=I.list hq;have O:=M.length;obtain⟨o,T,hc,n,hd⟩:=pl.isList;exact call_list_seq p (.inl rfl) T hc hd (λh' G kp e=>gz its M hz h' G kp e) (by simp_all)
 .obtain⟨its,M,pl,hz⟩:=I.tuple hq;have O:=M.length;obtain⟨o,T,hc,n,hd⟩:=pl;exact call_list_seq p (.inr rfl) T hc hd (λh' G kp e=>gz its M hz h' G kp e) (by simp_all)
theorem vg:cn X (.type "tuple") (λxs H Q=>∃p ys,xs=[.ref p]/\((ii X.K H p ys/\∀l,H l=none->Q (.ref l) (upd H l (.tup ys)))\/(jw X.K H p ys/\Q (.ref p) H))):=by
 intro ag s σ H xs us Q I r h;obtain⟨p,ys,rfl,h⟩:=h;obtain⟨u,rfl,T⟩:=ij r;cases T
 rcases h with⟨hq,q⟩|⟨hq,q⟩
 .obtain⟨its,G,pl,hz⟩:=I.list hq;have M:=G.length;refine call_tuple_list pl.isList (λh' kp=>?_) (by simp_all);have O:Inv X ag σ H { s with heap:=h' }:=I.kept (t':=s.toks) kp;have U:Inv X ag σ (upd H h'.objs.size (.tup ys)) { s with heap:=h'.push { cls:=.type "tuple",data:=.seq its.toArray } } :=
   O.laid (t':=s.toks) (λb o e=>vZ _ e) (vT _) (show bP X.prog X.w _ _ _ (.tup ys)from ⟨hz,its,G,IsTup.new _ _⟩)
  exact⟨.ref h'.objs.size,_,U,rfl,q _ (O.hok.fresh (vT _))⟩
 .obtain⟨its,G,pl,hz⟩:=I.tuple hq;exact call_tuple_same pl ⟨.ref p,H,I,rfl,q⟩
def VV (K:Frag)(T:String)(x:V)(H:Hp):Prop:=match x with
 |.str _=>T = "str"
 |.int _=>T = "int"
 |.ref p=>(T = "list"/\∃xs,ii K H p xs)\/(T = "tuple"/\∃o,K.lookup p=some o/\o.cls=.type "tuple"/\o.dict=none) \/
   (T = "dict"/\((∃aR ob,H p=some (.dK aR ob))\/∃aR,H p=some (.dT aR)))\/(T = "set"/\∃S n,H p=some (.set S n))
 |_=>False
theorem BM (I:Inv X ag σ H s)(r:aX x v)(ty:VV X.K T x H):
  s.TypeIs v T/\∀a,v=.ref a->∃ob,s.heap.get? a=some ob/\ob.dict=none:=by
 cases x with
 |str z=>
  obtain⟨t,rfl⟩:=r;cases (show T = "str" from ty)
  simp_all[typeIs_str]
 |int i=>
  obtain⟨t,rfl⟩:=r;cases (show T = "int" from ty)
  simp_all[typeIs_int]
 |ref p=>
  cases r
  rcases ty with⟨rfl,xs,hq⟩|⟨rfl,o,hk,hc,hd⟩|⟨rfl,hk⟩|⟨rfl,S,n,hk⟩
  .obtain⟨its,_,pl,_⟩:=I.list hq;refine⟨pl.isList.typeIs,λa e=>?_⟩;cases e
   obtain⟨o,n,e,c,hd,_⟩:=pl;exact⟨o,e,hd⟩
  .refine⟨⟨o,I.kIn p o hk,hc⟩,λa e=>?_⟩;cases e
   exact⟨o,I.kIn _ o hk,hd⟩
  .have z:∃o,s.heap.get? p=some o/\o.ExactDict:=by
    rcases hk with⟨aR,G,hk⟩|⟨aR,hk⟩
    .obtain⟨_,_,_,_,_,o,_,_,e,ex,_⟩:=I.hok p _ hk;exact⟨o,e,ex⟩
    .obtain⟨_,_,_,_,o,_,_,e,ex,_⟩:=I.hok p _ hk;exact⟨o,e,ex⟩
   obtain⟨o,e,ex⟩:=z;refine⟨⟨o,e,ex.1⟩,λa e2=>?_⟩;cases e2
   exact⟨o,e,ex.2.1⟩
  .obtain⟨o,_,_,_,e,ex,_⟩:=I.hok p _ hk;refine⟨⟨o,e,ex.1⟩,λa e2=>?_⟩;cases e2
   exact⟨o,e,ex.2.1⟩
 |_=>exact False.elim ty
def X7 (K:Frag)(T:String)(r:V->List V->Hp->VK->Prop)(to:TE)(t:TA):TE:=λσ H Q=>to σ H λx G=>VV K T x G/\t σ G λxs H2=>r x xs H2 Q
variable {o e:Expr}{es:QD}{to:TE}{t:TA}{name:Str}{di cj:Pos}{T id:String}{r:V->List V->Hp->VK->Prop}
theorem zr (g:PlainAttrs T)(slot:Slot T name id)(i:typeOf (.builtin id)=pure (.type "method_descriptor"))(hm:K2 X id r)(j:PE X o to)(ha:PA X (e::es) t)
  (M:attributeBase o name X.env (eval o X.env)=eval o X.env:=by rfl)
  (U:((backTo cj (starEach (e::es) X.env)).all (λx=>!x.1) && (backToKw cj (keywordEach [] X.env)).all (λx=>x.1.isSome)
   && decide ((e::es).length+([]:List Keyword).length+(if([]:List Keyword).isEmpty then 0 else 1)<30))=true:=by rfl)
  (O:(di.endLine == cj.line)=true:=by rfl) (hs:starEach (e::es) X.env=(false,eval e X.env)::starEach es X.env:=by rfl) (G:(backTo cj (starEach es X.env)).any (·.1)=false:=by rfl):
  PE X (.Call (.Attribute o name di) (e::es) [] cj) (X7 X.K T r to t):=by
 intro ag s σ H Q I h;refine wpAny_Call_method_late M U O rfl (c7 (j ag s σ H _ I h) λv s1 ⟨x,k,c,d,ty,l⟩=>?_);obtain⟨h1,h2⟩:=BM c d ty;refine⟨T,id,g,slot,i,h1,h2,?_⟩;have f:=ha cj ag s1 σ k _ c l;rw[hs]at f |-;refine Calls.callWith_builtin (by show(false || (backTo cj (starEach es X.env)).any (·.1))=false;rw[G]<;>rfl) (Calls.evalArgs_plain ?_)
 exact c7 f λus s2 ⟨vs,H2,m,n,p⟩=>hm ag s2 σ H2 x vs v us Q m d n p
/- xs.append(e),list.index on a module's tuple .. are K2 facts of 06m -/
end
def Ud (X:Cx)(id:String)(r:V->List V->Hp->VK->Prop):Prop :=
 ∀(ag:AO)(s:Shared)(σ:St)(H:Hp)(x:V)(xs:List V)(v:Value)(us:LU)(Q:VK),Inv X ag σ H s->aX x v->bg xs us->r x xs H Q ->
  wq X (call (.builtin id) (v::us)) (EP X ag σ Q) X.xe s
theorem bg.one {x:V}{us:LU}(h:bg [x] us):∃u,us=[u]/\aX x u:=by
 cases h with
 |cons r h=>cases h;exact⟨_,rfl,r⟩
theorem bg.two {x y:V}{us:LU}(h:bg [x,y] us):∃u v,us=[u,v]/\aX x u/\aX y v:=by
 cases h with
 |cons r h=>
  grind[bg.one]
theorem bg.zero:∀ {us:LU},bg [] us->us=[]
 |_,.nil=>rfl
section
variable {X:Cx}{ag:AO}{σ:St}{H:Hp}{s:Shared}{l b:Addr}{xs ys zs:List V}
theorem Inv.lset {its its':LU}{n:Nat}{f:AV->AV}{t':Nat}(I:Inv X ag σ H s)(G:H l=some (.lst xs))
  (e:s.heap.get? l=some { cls:=.type "list",data:=.seq its.toArray n }) (hf:f its.toArray=its'.toArray) (hv:bg ys its') (hz:ys.length<=sizeLine):
  Inv X ag σ (upd H l (.lst ys)) { s with heap:=s.heap.update l (Obj.mapSeq f),toks:=t' }:=by
 have q:=PySem.IsL.update e f;rw[hf]at q;refine I.write (x:=l) (e:=l) (by rw[G];exact trivial) (.inl rfl) (λb' u hb hu=>(Heap.get?_update_other s.heap (Obj.mapSeq f) (Ne.symm hb)).trans hu) ⟨_,q⟩ ?_;exact⟨hz,its',_,hv,q⟩
theorem Inv.lnew (I:Inv X ag σ H s)(hv:bg ys its)(hz:ys.length<=sizeLine):
  Inv X ag σ (upd H s.heap.objs.size (.lst ys)) { s with heap:=s.heap.push { cls:=.type "list",data:=.seq its.toArray },toks:=t' } :=
 I.laid (λ_ _ q=>vZ _ q) (vT _) ⟨hz,its,0,hv,vY _ rfl⟩
theorem Inv.fresh (I:Inv X ag σ H s):H s.heap.objs.size=none:=I.hok.fresh (vT _)
theorem Inv.lstM (I:Inv X ag σ H s)(G:H l=some (.lst xs)):xs.length<=sizeLine/\∃(its:LU)(n:Nat),bg xs its/\xs.length=its.length/\s.heap.get? l=some { cls:=.type "list",data:=.seq its.toArray n }:=by
 obtain⟨z,its,n,r,e⟩:=I.hok l _ G;exact⟨z,its,n,r,r.length,e⟩
theorem GK (h:n<=sizeLine):Builtin.List.listTooLong n=false:=by
 simp_all[Builtin.List.listTooLong]
end
section
variable {X:Cx}
def Dc:V->List V->Hp->VK->Prop:=λx vs H Q=>∃l xs y,x=.ref l/\vs=[y]/\H l=some (.lst xs)/\xs.length<sizeLine/\Q .non (upd H l (.lst (xs++[y])))
theorem wg:Ud X "list.append" Dc:=by
 intro ag s σ H x vs v us Q I M O h;obtain⟨l,xs,y,rfl,rfl,G,hz,q⟩:=h;cases M
 obtain⟨u,rfl,ru⟩:=O.one;obtain⟨z,its,n,r,hl,e⟩:=I.lstM G;refine call_meets F.slot_list_append ⟨_,e,rfl⟩ F.entry_list_append (F.args_list_append_2 _ _) (PySem.list_append l its.toArray n u (by rw[vH];lia)) ⟨e,?_⟩;refine⟨.non,_,I.lset (its':=its++[u]) G e N9 (r.append (.cons ru .nil)) ?_,rfl,q⟩;simp<;>lia
def K6:V->List V->Hp->VK->Prop:=λx vs H Q=>∃l b xs zs,x=.ref l/\vs=[.ref b]/\H l=some (.lst xs)/\H b=some (.lst zs)/\xs.length+zs.length<=sizeLine/\Q .non (upd H l (.lst (xs++zs)))
theorem EQ:Ud X "list.extend" K6:=by
 intro ag s σ H x vs v us Q I T U h;obtain⟨l,b,xs,zs,rfl,rfl,O,hB,hz,q⟩:=h;cases T
 obtain⟨u,rfl,ru⟩:=U.one;cases ru
 obtain⟨z,its,n,r,hl,e⟩:=I.lstM O;obtain⟨c,G,n2,a,d,e2⟩:=I.lstM hB;have hsz:its.toArray.size+G.toArray.size<=sizeLine:=by simp_all
 have M:¬(!its.toArray.isEmpty && Builtin.List.listTooLong (its.toArray.size+G.toArray.size))=true:=by
  simp_all[GK]
 refine call_meets F.slot_list_extend ⟨_,e,rfl⟩ F.entry_list_extend (F.args_list_extend_2 _ _)
  (AutoSeq1.list_extend_list_list_0 l its.toArray n b G.toArray n2 M (by rw[vH];lia) M9) ⟨e,e2,?_⟩
 refine⟨.non,_,I.lset (its':=its++G) O e N9 (r.append a) ?_,rfl,q⟩;simp_all
end
end L2
namespace Att
open PySem PySem.W PySem.Calls PyProof.Rows
theorem qI:∀(ns:LI)(vs:LU),WellAll P h vs (ns.map WData.int)->IntsAre vs ns:=by
 intro ns;induction ns with
 |nil=>
  intro vs w;rw[List.map_nil]at w;cases w
  exact .nil
 |cons n ns ih=>
  intro vs w;rw[uY]at w;cases w with
  |cons a b=>
   cases a
   exact .cons _ _ (ih _ b)
theorem ER {l:OpenLaw}{n:Nat}(hn:l.most=some n){P:Params}{h:Heap}{args:List WData}{vals:LU}
  (G:l.row.toRowW.claim.pre args=true) (T:WellAll P h vals args):
  ∃a vs ns,vals=[Value.ref a]/\args=[WData.list (ns.map WData.int)]/\h.get? a=some { cls:=.type "list",data:=.seq vs.toArray }/\IntsAre vs ns/\ns.length<=n:=by
 have U:WShape.hasAll [] args [.list .int]=true:=(pre_splitW G).1;have hc:l.pre.holds [] { args:=args }=true:=(pre_splitW G).2;obtain⟨d,r,rfl,h1,h2⟩:=hasAllW_cons U;obtain rfl:=hasAllW_nil h2;obtain⟨xs,rfl,h3⟩:=hasW_list h1;obtain⟨ns,rfl⟩:=items_int h3;have M:ns.length<=n:=by
  unfold OpenLaw.pre at hc;have h4:(WTm.not (.lt (.lit (.int (n:Int))) (.len (.arg 0)))).holds [] { args:=[.list (ns.map .int)] }=true:=by
   have h4:=(holds_andW hc).1;rw[hn]at h4;exact h4
  have h5:=condW_of h4 (w_not (w_lt w_lit (w_len_list (w_arg rfl))));simp_all
 cases T with
 |cons b c=>
  cases c
  cases b with
  |list e O=>exact⟨_,_,ns,rfl,rfl,e,qI ns _ O,M⟩
theorem ES (l:OpenLaw)(args:List WData):l.row.toRowW.claim.post args (.bool true) args=true :=
 postW_of (r:=l.row.toRowW) (X:=(true == true))
  (show WShape.has [] (.bool true) .bool=true by rfl)
  (show(WTm.eq .res (.lit (.bool true))).value [] { args:=args,res:=some (.bool true),after:=args }=some (.bool (true == true))from w_eq_bool (w_res rfl) w_lit) rfl
section
variable {prog:Program}{w:World}{A:Around}{E:QV}{s:Shared}{K:Frag}
end
end Att
namespace L2
open PySem PySem.Spec PyProof.Rows
theorem iC:∀ {vs:LU}{ns:LI},IntsAre vs ns->bg (ns.map V.int) vs
 |_,_,.nil=>.nil
 |_,_,.cons n t h=>.cons ⟨t,rfl⟩ (iC h)
noncomputable def dZ (s:Stmt):Arguments:=match s with
 |.FunctionDef _ a _ _ _ _ _ _ _ _=>a
 |_=>{ posonlyargs:=[],args:=[],vararg:=none,kwonlyargs:=[],kw_defaults:=[],kwarg:=none,defaults:=[] }
noncomputable def cc (s:Stmt):List Stmt:=match s with
 |.FunctionDef _ _ b _ _ _ _ _ _ _=>b
 |_=>[]
noncomputable def aO (s:Stmt):Scope:=match s with
 |.FunctionDef _ _ _ _ _ _ sc _ _ _=>sc
 |_=>{ kind:=.function,names:=[],isGenerator:=false,isCoroutine:=false }
abbrev zi:MB:=λ_ _ _ _ _ _=>False
abbrev E0:XK:=λ_ _ _=>False
theorem MC:BG zi X E0:=λ_ _ _ _ _ _ _ h=>h.elim
structure PJ (K:Frag)(x qual:Str)(st:Stmt)(f:Addr)(fd:FuncData):Prop where
 ex:∃(oc:Value)(od:Option Addr)(kV doc pm:Value)(an:Option Addr)(dv ct:Value)(mv:Array (Option Value)),
  fd=fnOf x qual (dZ st) (cc st) (aO st) .none kV doc pm an dv ct/\K.lookup f=some ⟨oc,od,.func fd,mv⟩/\PySem.W.codeIn K dv qual=true
 kp:PySem.W.keepIn K (.ref f)=true
section
variable {P:Program}{w:World}{K:Frag}{mg:SV}{base:Heap}
theorem PJ.ok {x qual:Str}{st:Stmt}{f:Addr}{fd:FuncData}{N ps:LS}{k:Nat}{sp:Sp}(F:PJ K x qual st f fd)(S:FnScope N ps (aO st))(len:∀vs H Q E,sp vs H Q E->vs.length=ps.length)
  (G:∀(dv:Value)(A:Around)(outer:List Env)(s:Shared)(H:Hp)(vs:List V)(Q:VK)(E:XK),eU k (A.deeper (envOfC qual (aO st) s.heap.objs.size f dv))->sp vs H Q E ->
   ∃t,uR (ph zi P w K mg base N qual (aO st) f dv A outer s H E).nox (cc st) t/\t { nx:=λ_ H'=>Q .non H',rt:=Q } (kR N vs) H):uM P w K mg base zi (k+1) f fd ps sp:=by
 obtain⟨oc,od,kV,doc,pm,an,dv,ct,mv,rfl,T,M⟩:=F.ex;refine G9 T M S len λA outer s H vs Q E U O=>?_;obtain⟨t,h,q⟩:=G dv A outer s H vs Q E U O;exact⟨t,h.nox,q⟩
theorem PJ.binds {x qual:Str}{st:Stmt}{f:Addr}{fd:FuncData}{ps:LS}(F:PJ K x qual st f fd)
  (h:∀(kV doc pm:Value)(an:Option Addr)(dv ct:Value)(us:LU),us.length=ps.length->bindArgs (fnOf x qual (dZ st) (cc st) (aO st) .none kV doc pm an dv ct) ⟨us,[]⟩=pure (ps.zip us)):pU K fd ps []:=by
 obtain⟨oc,od,kV,doc,pm,an,dv,ct,mv,rfl,M,G⟩:=F.ex;exact .all (h kV doc pm an dv ct)
theorem Od {x qual:Str}{st:Stmt}{f:Addr}{oc:Value}{od an:Option Addr}{mv:Array (Option Value)}{kV doc pm dv ct:Value}(l:K.lookup f=some ⟨oc,od,.func (fnOf x qual (dZ st) (cc st) (aO st) .none kV doc pm an dv ct),mv⟩)
  (c:PySem.W.codeIn K dv qual=true) (k:PySem.W.keepIn K (.ref f)=true):PJ K x qual st f (fnOf x qual (dZ st) (cc st) (aO st) .none kV doc pm an dv ct):=⟨⟨oc,od,kV,doc,pm,an,dv,ct,mv,rfl,l,c⟩,k⟩
end
def bc (H H':Hp):Prop:=∀b o,H b=some o->H' b=some o
theorem bc.refl (H:Hp):bc H H:=λ_ _ h=>h
theorem bc.trans (a:bc H G)(b:bc G H2):bc H H2:=λc o h=>b c o (a c o h)
theorem bc.free (e:bc H H')(h:H' l=Option.none):H l=Option.none:=by
 cases q:H l with
 |none=>rfl
 |some o=>
  rw[e l o q]at h;cases h
theorem bc.seq {K:Frag}{H H':Hp}{a:Addr}{xs:List V}(e:bc H H')(h:ii K H a xs):ii K H' a xs:=by
 rcases h with (h|⟨o,h⟩)|h
 .exact .inl (.inl (e _ _ h))
 .exact .inl (.inr ⟨o,e _ _ h⟩)
 .exact .inr h
section
variable {κ:Type}[DecidableEq κ]
noncomputable def lq (aR:List (κ×V))(k:κ):Option V:=(aR.find? λkv=>decide (kv.1=k)).map (·.2)
def pj (aR:List (κ×V))(k:κ)(v:V):List (κ×V) :=
 if(aR.any λkv=>decide (kv.1=k))=true then aR.map (λkv=>if kv.1=k then (kv.1,v)else kv)else aR++[(k,v)]
theorem nJ {p:κ×V}{r:List (κ×V)}{k:κ}(e:p.1=k):lq (p::r) k=some p.2:=by simp[lq,e]
theorem nL {p:κ×V}{r:List (κ×V)}{k:κ}(e:¬p.1=k):lq (p::r) k=lq r k:=by simp[lq,e]
theorem zt (k:κ):∀aR:List (κ×V),(aR.any λkv=>decide (kv.1=k))=(lq aR k).isSome
 |[]=>rfl
 |p::r=>by
  rw[any_cons];by_cases e:p.1=k
  .simp_all[nJ]
  .rw[nL e,So e];exact zt k r
theorem lr (aR:List (κ×V))(k:κ)(v:V):(pj aR k v).length<=aR.length+1:=by
 grind[pj]
theorem qG.isSome_eq (r:qG o u):o.isSome=u.isSome:=by
 cases o with
 |none=>cases u with
  |none=>rfl
  |some _=>exact(show False from r).elim
 |some _=>cases u with
  |none=>exact(show False from r).elim
  |some _=>rfl
theorem qG.getD (r:qG o u)(G:aX d d'):aX (o.getD d) (u.getD d'):=by
 cases o with
 |none=>cases u with
  |none=>exact G
  |some _=>exact(show False from r).elim
 |some _=>cases u with
  |none=>exact(show False from r).elim
  |some _=>exact r
theorem KV.val {aR:List (κ×V)}{vs:List (κ×Value)}(r:KV aR vs)(k:κ):qG (lq aR k) (valueAt vs k):=by
 induction r with
 |nil=>exact True.intro
 |@cons p q ps G h t ih=>
  obtain⟨h1,h2⟩:=h;by_cases e:p.1=k
  .have b:valueAt (q::G) k=some q.2:=by simp_all[valueAt]
   rw[nJ e,b];exact h2
  simp_all[valueAt,nL]
theorem KV.any (r:KV aR vs)(k:κ):(aR.any λkv=>decide (kv.1=k))=vs.any λkv=>decide (kv.1=k):=by
 induction r with
 |nil=>rfl
 |cons h t ih=>simp_all
theorem KV.repl (r:KV aR vs)(k:κ)(G:aX y u):
  KV (aR.map λkv=>if kv.1=k then (kv.1,y)else kv) (vs.map λkv=>if kv.1=k then (kv.1,u)else kv):=by
 induction r with
 |nil=>exact .nil
 |@cons p q ps M h t ih=>
  rw[uY];refine .cons ?_ ih;split<;>simp_all
theorem KV.put (r:KV aR vs)(k:κ)(G:aX y u):KV (pj aR k y) (stored vs k u):=by
 unfold pj stored;rw[r.any k];by_cases e:(vs.any λkv=>decide (kv.1=k))=true
 .rw[if_pos e,if_pos e];exact r.repl k G
 .rw[if_neg e,if_neg e];exact Paired.snoc r ⟨rfl,G⟩
theorem KV.length (r:KV aR vs):aR.length=vs.length:=Paired.length r
end
theorem zu (r:aX (kV k) u):(dm P w).is k u=true:=by
 cases k with
 |inl i=>obtain⟨t,e⟩:=(show ∃t,u=Value.int i t from r);simp_all[zj]
 |inr x=>obtain⟨t,e⟩:=(show ∃t,u=Value.str x t from r);simp_all[zk]
theorem wh:∀ {ks:List ft}{us:LU},bg (ks.map kV) us->ItemsAre (dm P w) ks us
 |[],_,r=>by cases r;exact .nil
 |k::ks,_,r=>by
  cases r with
  |cons h t=>exact .cons (zu h) (wh t)
abbrev KT (H:Hp):List (List ft×V)->List (List ft×Addr×Value)->Prop:=Paired λp q=>p.1=q.1/\H q.2.1=some (.tup (p.1.map kV))/\aX p.2 q.2.2
theorem KT.val {H:Hp}{aR:List (List ft×V)}{xs:List (List ft×Addr×Value)}(r:KT H aR xs)(k:List ft):qG (lq aR k) ((atKey xs k).map (·.2)):=by
 induction r with
 |nil=>exact True.intro
 |@cons p q ps G h t ih=>
  obtain⟨h1,_,h2⟩:=h;by_cases e:p.1=k
  .have M :=h1.symm.trans e;have b:atKey (q::G) k=some q.2:=by simp[atKey,M]
   rw[nJ e,b];exact h2
  simp_all[atKey,nL]
theorem KT.repl (r:KT H aR xs)(k:List ft)(G:aX y u):
  KT H (aR.map λkv=>if kv.1=k then (kv.1,y)else kv) (xs.map (putAt k u)):=by
 induction r with
 |nil=>exact .nil
 |@cons p q ps M h t ih=>
  refine .cons ?_ ih;unfold putAt;split<;>simp_all
theorem KT.put (r:KT H aR xs)(k:List ft)(hb:H b=some (.tup (k.map kV)))(G:aX y u):
  KT H (pj aR k y) (storedH xs k b u):=by
 have e:(aR.any λkv=>decide (kv.1=k))=(atKey xs k).isSome:=by
  rw[zt,(r.val k).isSome_eq,Option.isSome_map]
 unfold pj storedH;rw[e];by_cases q:(atKey xs k).isSome=true
 .rw[if_pos q,if_pos q];exact r.repl k G
 .rw[if_neg q,if_neg q];exact Paired.snoc r ⟨rfl,hb,G⟩
theorem KT.keeps (r:KT H aR xs)(G:∀b ys,H b=some (.tup ys)->H' b=some (.tup ys)):KT H' aR xs :=
 Paired.mapP r λ_ _ z=>⟨z.1,G _ _ z.2.1,z.2.2⟩
section
variable {P:Program}{w:World}{H:Hp}{h:Heap}{a:Addr}
theorem MD (ok:mw P w H h)(e:Rd H a u):bP P w H h a u:=e.ok ok
theorem BN (ok:mw P w H h)(e:H a=some (.dK aR ob)):h.get? a=some ob:=And.left (show bP P w H h a _ from ok a _ e)
theorem De (ok:mw P w H h)(e:Rd H a (.dK aR ob)):aR.length<=sizeLine/\(a == sysModules)=false/\∃vs,KV aR vs/\h.DictOf (dm P w) a vs :=
 And.right (show bP P w H h a _ from MD ok e)
theorem ro (ok:mw P w H h)(e:H a=some (.dK aR ob)):aR.length<=sizeLine/\(a == sysModules)=false/\∃vs,KV aR vs/\h.DictOf (dm P w) a vs:=De ok (.inl e)
theorem xW (ok:mw P w H h)(e:H a=some (.tup (ks.map kV))):(tupleKind (dm P w)).is h ks a:=by
 obtain⟨_,its,r,o,h1,h2,n,h3⟩:=(show bP P w H h a _ from ok a _ e);exact⟨o,its.toArray,n,h1,h2,h3,by simpa using wh r⟩
theorem Df (ok:mw P w H h)(e:Rd H a (.dT aR)):aR.length<=sizeLine/\(a == sysModules)=false /\
  ∃xs,KT H aR xs/\h.DictOfH (tupleKind (dm P w)) a xs:=by
 obtain⟨z,y,xs,r,o,es,G,h1,h2,h3,h4,h5⟩:=(show bP P w H h a _ from MD ok e);refine⟨z,y,xs,r,o,es,G,h1,h2,h3,h4,λx hx=>?_,h5⟩;have all:∀ {l:List _}{m:List _},KT H l m->∀x∈m,(tupleKind (dm P w)).is h x.1 x.2.1:=by
  intro l m q;induction q with
  |nil=>intro x hx;exact nomatch hx
  |@cons p q ps M hq t ih=>
   grind[xW]
 exact all r x hx
theorem QZ (ok:mw P w H h)(e:H a=some (.dT aR)):aR.length<=sizeLine/\(a == sysModules)=false /\
  ∃xs,KT H aR xs/\h.DictOfH (tupleKind (dm P w)) a xs:=Df ok (.inl e)
end
def ET (H:Hp)(a:Addr)(y:V)(r:Option V):Prop :=
 (∃aR k ob,Rd H a (.dK aR ob)/\y=kV k/\r=lq aR k)\/∃aR k b,Rd H a (.dT aR)/\y=.ref b/\H b=some (.tup (k.map kV))/\r=lq aR k
def Ra (H:Hp)(a:Addr)(y v:V)(Q:Hp->Prop):Prop :=
 (∃aR k ob,H a=some (.dK aR ob)/\y=kV k/\aR.length<sizeLine/\∀G,Q (upd H a (.dK (pj aR k v) G))) \/
 ∃aR k b,H a=some (.dT aR)/\y=.ref b/\H b=some (.tup (k.map kV))/\aR.length<sizeLine/\Q (upd H a (.dT (pj aR k v)))
theorem ET.t (e:H a=some (.dT aR))(G:H b=some (.tup (k.map kV))):ET H a (.ref b) (lq aR k):=.inr ⟨aR,k,b,.inl e,rfl,G,rfl⟩
section
variable {X:Cx}{ag:AO}{σ:St}{H:Hp}{s:Shared}{a:Addr}{y v:V}{u r:Value}{o:Option V}{A:Around}{E:QV}
theorem Inv.big (I:Inv X ag σ H s):sysModules<s.heap.objs.size:=by
 have h :=(I.mod.glob.keeps I.bk).lt;exact Nat.lt_trans V9 h
theorem Uf (hu:A.units+1<cLine)(I:Inv X ag σ H s)(g:ET H a y o)(M:aX y u)(h:∀s',Inv X ag σ H s'->Q (.bool o.isSome) s'):
  wpAny (model X.prog X.w) A (compareOp .In u (.ref a)) Q E s:=by
 rcases g with⟨aR,k,ob,e,G,l⟩|⟨aR,k,b,e,G,O,l⟩
 .subst G;obtain⟨z,hd,vs,rel,dd⟩:=De I.hok e;refine wpAny_in_of (zu M) hd dd.mapOf ?_;rw[<-(rel.val k).isSome_eq,<-l];exact h _ (I.tok _)
 .subst G;cases (show u=Value.ref b from M)
  obtain⟨z,hd,xs,rel,dd⟩:=Df I.hok e;refine wpAny_in_heap (tupleKind_room_in1 hu) (xW I.hok O) hd dd ?_;have q:=(rel.val k).isSome_eq;rw[Option.isSome_map]at q;rw[<-q,<-l];exact h _ (I.tok _)
theorem xX (I:Inv X ag σ H s)(G:Qy (H a))(hs:Heap.SameBut a s.heap h')(he:∃q,h'.get? a=some q)(new:bP X.prog X.w (upd H a ob) h' a ob):
  Inv X ag σ (upd H a ob) { s with heap:=h',toks:=t' } :=
 I.write   G (.inl rfl) (λb q hb z=>(hs.2 b hb).trans z) he new
theorem GL (z:aR.length<=sizeLine)(hd:(a == sysModules)=false)(rel:KV aR vs)(dd:h'.DictOf (dm P w) a vs)(G:h'.get? a=some ob):
  bP P w H' h' a (.dK aR ob):=⟨G,z,hd,vs,rel,dd⟩
theorem EU (hu:A.units+1<cLine)(I:Inv X ag σ H s)(g:Ra H a y v R)(T:aX y u)(U:aX v r)(h:∀H' s',R H'->Inv X ag σ H' s'->Q () s'):
  wpAny (model X.prog X.w) A (setItem (.ref a) u r) Q E s:=by
 rcases g with⟨aR,k,ob,e,M,l,O⟩|⟨aR,k,b,e,M,d,l,O⟩
 .subst M;obtain⟨z,hd,vs,rel,dd⟩:=ro I.hok e;have hz:vs.length<=sizeLine:=by rw[<-rel.length];exact z
  have hl:(pj aR k v).length<=sizeLine:=by have:=lr aR k v;lia
  refine wpAny_setItem_pairs (hsz:=hz) (zu T) dd λh' G hs=>?_;obtain⟨q,hq⟩:∃q,h'.get? a=some q:=let ⟨q,_,_,hq,_⟩:=G;⟨q,hq⟩;exact h _ _ (O q) (xX I (by rw[e];exact True.intro) hs ⟨q,hq⟩ (GL hl hd (rel.put k U) G hq))
 .subst M;cases (show u=Value.ref b from T)
  obtain⟨z,hd,xs,rel,dd⟩:=QZ I.hok e;have hz:xs.length<=sizeLine:=by rw[<-Paired.length rel];exact z
  have hl:(pj aR k v).length<=sizeLine:=by have:=lr aR k v;lia
  refine wpAny_setItem_heap (hsz:=hz) (tupleKind_room_in1 hu) (xW I.hok d) dd λh' G hs=>h _ _ O ?_;obtain⟨q,es,i,hq,h2,h3,h4,_,h5⟩:=G;refine xX I (by rw[e];exact True.intro) hs ⟨q,hq⟩ ⟨hl,hd,_,(rel.put k d U).keeps λc ys f=>?_,q,es,i,hq,h2,h3,h4,h5⟩;rw[aK (Qx f e (λz=>nomatch z))];exact f
end
def Ug (ty G:TE):TE:=λσ H Q=>ty σ H λy M=>G σ M λx H2=>∃a o,x=.ref a/\ET H2 a y o/\Q (.bl o.isSome) H2
def Dg (G ty M:TE):TS:=λD σ H=>M σ H λv O=>G σ O λx H2=>ty σ H2 λy T=>∃a,x=.ref a/\Ra T a y v (D.nx σ)
section
variable {X:Cx}{o i e value:Expr}{pos pT PD:Pos}{td ty tv:TE}
theorem Oe (hu:X.A.units+1<cLine)(hi:PE X i ty)(G:PE X o td):PC X .In i o (Ug ty td):=by
 intro ag s σ H Q I h;refine c7 (hi _ s σ H _ I h) λiv s1 ⟨y,M,O,T,U⟩=>c7 (G _ s1 σ M _ O U) λu s2 ⟨x,H2,b,c,a,j,ex,g,d⟩=>?_;subst ex;obtain rfl:u=Value.ref a:=c;exact Uf hu b g T λk f=>⟨.bl _,H2,f,rfl,d⟩
theorem xY (hu:X.A.units+1<cLine)(G:PE X o td)(hi:PE X i ty)(hv:PE X value tv)(hs:swapsWith value (some (.Subscript o i pT)) pos.line X.env=pure false):
  PS X (.Assign [.Subscript o i pT] value pos) (Dg td ty tv):=by
 intro ag s σ H D I h;refine wpAny_Assign_Subscript (c7 (hv _ s σ H _ I h) λr s1 ⟨v,M,O,T,U⟩=>c7 (G _ s1 σ M _ O U) λu s2 ⟨x,H2,b,c,d⟩=>c7 (hi _ s2 σ H2 _ b d) λiv n ⟨y,p,f,j,a,ex,g⟩=>?_) hs;subst ex;obtain rfl:u=Value.ref a:=c;exact EU hu f g j T λk q l m=>⟨σ,k,m,l⟩
end
theorem zv (h:Heap)(hb:sysModules<h.objs.size):bP P w H (h.push { cls:=.type "dict",data:=.dict #[] }) h.objs.size (.dK [] { cls:=.type "dict",data:=.dict #[] }) :=
 ⟨vY _ rfl,uN _,beq_eq_false_iff_ne.mpr (Ne.symm (vS hb)),[],.nil,Heap.DictOf.new h⟩
theorem GN (h:Heap)(hb:sysModules<h.objs.size):bP P w H (h.push { cls:=.type "dict",data:=.dict #[] }) h.objs.size (.dT []) :=
 ⟨uN _,beq_eq_false_iff_ne.mpr (Ne.symm (vS hb)),[],.nil,_,#[],0,vY _ rfl,⟨rfl,rfl,rfl⟩,rfl,rfl,nodup_nil⟩
def GO:TE:=λ_ H Q=>∀p ob,H p=none->Q (.ref p) (upd H p (.dK [] ob))
def GP:TE:=λ_ H Q=>∀p,H p=none->Q (.ref p) (upd H p (.dT []))
section
variable {X:Cx}{pos:Pos}
theorem GQ:PE X (.Dict [] [] pos) GO:=λag s σ H Q I h=>
 wpAny_Dict_empty ⟨.ref _,_,I.laid    (λ_ _ q=>vZ _ q) (vT _) (zv _ I.big),rfl,h _ _ (I.hok.fresh (vT _))⟩
theorem GS:PE X (.Dict [] [] pos) GP:=λag s σ H Q I h=>
 wpAny_Dict_empty ⟨.ref _,_,I.laid    (λ_ _ q=>vZ _ q) (vT _) (GN _ I.big),rfl,h _ (I.hok.fresh (vT _))⟩
end
structure M1 (X:Cx)(o:Expr)(m:Str)(di:Pos)(e:Expr)(cj:Pos):Prop where
 base:attributeBase o m X.env (eval o X.env)=eval o X.env
 few:((backTo cj (starEach [e] X.env)).all (λx=>!x.1) && (backToKw cj (keywordEach [] X.env)).all (λx=>x.1.isSome)
  && decide (([e]:List Expr).length+([]:List Keyword).length+(if([]:List Keyword).isEmpty then 0 else 1)<30))=true
 line:(di.endLine == cj.line)=true
 trees:backTo cj (starEach [e] X.env)=[(false,eval e X.env)]
def VW (H:Hp)(a:Addr):Prop:=(∃aR ob,Rd H a (.dK aR ob))\/∃aR,Rd H a (.dT aR)
theorem Of (I:Inv X ag σ H s)(d:VW H a):
  s.TypeIs (.ref a) "dict"/\(∀b,Value.ref a=.ref b->∃ob,s.heap.get? b=some ob/\ob.dict=none)/\(a == sysModules)=false:=by
 rcases d with⟨aR,G,e⟩|⟨aR,e⟩
 .obtain⟨_,hd,vs,_,dd⟩:=De I.hok e;refine⟨dd.typeIs,λb q=>?_,hd⟩;cases q
  obtain⟨ob,_,_,h1,h2,_⟩:=dd;exact⟨ob,h1,h2.2.1⟩
 .obtain⟨_,hd,xs,_,dd⟩:=Df I.hok e;refine⟨dd.typeIs,λb q=>?_,hd⟩;cases q
  obtain⟨ob,_,_,h1,h2,_⟩:=dd;exact⟨ob,h1,h2.2.1⟩
section
variable {X:Cx}{ag:AO}{σ:St}{H:Hp}{s:Shared}{a:Addr}{y d:V}{u r:Value}{o:Option V}{A:Around}{E:QV}
theorem Og (hu:A.units+1<cLine)(I:Inv X ag σ H s)(g:ET H a y o)(M:aX y u)(h:∀O s',Inv X ag σ H s'->aX (o.getD .non) O->Q O s'):
  wpAny (model X.prog X.w) A (call (.builtin "dict.get") [.ref a,u]) Q E s:=by
 rcases g with⟨aR,k,ob,e,G,l⟩|⟨aR,k,b,e,G,T,l⟩
 .subst G;obtain⟨z,hd,vs,rel,dd⟩:=De I.hok e;refine call_meetsIn slot_dict_get dd.typeIs entry_dict_get (PySem.F.args_dict_get_2 _ _) (meets_dict_get _ a (zu M) hd) ⟨_,dd.mapOf,h _ _ (I.tok _) ?_⟩;rw[l];exact(rel.val k).getD rfl
 .subst G;cases (show u=Value.ref b from M)
  obtain⟨z,hd,xs,rel,dd⟩:=Df I.hok e;refine call_meetsIn slot_dict_get dd.typeIs entry_dict_get (PySem.F.args_dict_get_2 _ _) (meetsH_dict_get _ a b hd) ⟨tupleKind_room_in1 hu,k,xs,xW I.hok T,dd,h _ _ (I.tok _) ?_⟩;rw[l];exact(rel.val k).getD rfl
end
def Oh (M ty:TE):TE:=λσ H Q=>M σ H λx G=>∃a,x=.ref a/\VW G a/\ty σ G λy H2=>∃o,ET H2 a y o/\Q (o.getD .non) H2
section
variable {X:Cx}{o e f:Expr}{di cj:Pos}{td ty tx:TE}
theorem zw (hu:X.A.units+1<cLine)(O:PE X o td)(he:PE X e ty)(m:M1 X o "get" di e cj):PE X (.Call (.Attribute o "get" di) [e] [] cj) (Oh td ty):=by
 intro ag s σ H Q I h;refine wpAny_Call_method m.base m.few m.line plainAttrs_dict slot_dict_get PySem.F.type_dict_get (c7 (O _ s σ H _ I h) λu s1 ⟨x,T,M,U,a,ex,d,b⟩=>?_);subst ex;obtain rfl:u=Value.ref a:=U;obtain⟨c,i,_⟩:=Of M d;refine⟨c,i,?_⟩;rw[m.trees];refine Calls.callWith_builtin rfl (Calls.evalArgs_plain (Calls.spliced_cons (c7 (he _ s1 σ T _ M b) λiv s2 ⟨y,H2,j,k,p,g,l⟩=>Calls.spliced_nil ?_)));exact Og hu j g k λq r n G=>⟨_,H2,n,G,l⟩
end
end L2
namespace DL
open PySem L2
abbrev St:=L2.St
inductive D where
 |non|bl (b:Bool)|int (i:Int)|str (x:Str)|ty (n:String)|tup (ds:List D)|lst (ds:List D)
  |dk (ks:List ft) (vs:List D)|dt (ks:List (List ft)) (vs:List D)
abbrev LD:=List D
abbrev LV:=List V
abbrev LK:=List ft
abbrev OB:=Option (D×Bool)
mutual
inductive Is (K:Frag)(H:Hp):V->D->Prop where
 |non:Is K H .non .non
 |bl (b:Bool):Is K H (.bl b) (.bl b)
 |int (i:Int):Is K H (.int i) (.int i)
 |str (x:Str):Is K H (.str x) (.str x)
 |ty (n:String):Is K H (.ty n) (.ty n)
 |tup {a:Addr}{vs:List V}{ds:List D}(h:jw K H a vs) (hs:IsL K H vs ds):Is K H (.ref a) (.tup ds)
 |lst {a:Addr}{vs:List V}{ds:List D}(h:ii K H a vs) (hs:IsL K H vs ds):Is K H (.ref a) (.lst ds)
 |dk {a:Addr}{ks:List ft}{vs:List V}{ds:List D}{ob:Obj}(h:H a=some (.dK (ks.zip vs) ob)) (hl:ks.length=vs.length) (hs:IsL K H vs ds):Is K H (.ref a) (.dk ks ds)
 |dt {a:Addr}{ks:List (List ft)}{vs:List V}{ds:List D}(h:H a=some (.dT (ks.zip vs))) (hl:ks.length=vs.length) (hs:IsL K H vs ds):Is K H (.ref a) (.dt ks ds)
inductive IsL (K:Frag)(H:Hp):List V->List D->Prop where
 |nil:IsL K H [] []
 |cons {v:V}{d:D}{vs:List V}{ds:List D}(h:Is K H v d) (hs:IsL K H vs ds):IsL K H (v::vs) (d::ds)
end
mutual
def bC:D->Bool
 |.lst _=>false
 |.dk _ _=>false
 |.dt _ _=>false
 |.tup ds=>b8 ds
 |_=>true
def b8:LD->Bool
 |[]=>true
 |d::ds=>bC d && b8 ds
end
@[simp] theorem PZ:bC .non=true:=by simp only[bC]
@[simp] theorem Rb (b:Bool):bC (.bl b)=true:=by simp only[bC]
@[simp] theorem Qa (i:Int):bC (.int i)=true:=by simp only[bC]
@[simp] theorem Qb (x:Str):bC (.str x)=true:=by simp only[bC]
@[simp] theorem Rc (x:String):bC (.ty x)=true:=by simp only[bC]
@[simp] theorem Qc (ds:LD):bC (.tup ds)=b8 ds:=by rw[bC]
@[simp] theorem Qd (ds:LD):bC (.lst ds)=false:=by rw[bC]
@[simp] theorem Re (ks:LK)(ds:LD):bC (.dk ks ds)=false:=by rw[bC]
@[simp] theorem Rf (ks:List LK)(ds:LD):bC (.dt ks ds)=false:=by rw[bC]
@[simp] theorem Oi:b8 []=true:=by rw[b8]
@[simp] theorem ME (d:D)(ds:LD):b8 (d::ds)=(bC d && b8 ds):=by rw[b8]
section
variable {K:Frag}{H H':Hp}
mutual
theorem Is.keep (G:∀a vs,jw K H a vs->jw K H' a vs)(M:∀a vs,ii K H a vs->ii K H' a vs)(O:∀a aR ob,H a=some (.dK aR ob)->H' a=some (.dK aR ob))(T:∀a aR,H a=some (.dT aR)->H' a=some (.dT aR)):∀ {v:V}{d:D},Is K H v d->Is K H' v d
 |_,_,.non=>.non
 |_,_,.bl b=>.bl b
 |_,_,.int i=>.int i
 |_,_,.str x=>.str x
 |_,_,.ty x=>.ty x
 |_,_,.tup h hs=>.tup (G _ _ h) (IsL.keep G M O T hs)
 |_,_,.lst h hs=>.lst (M _ _ h) (IsL.keep G M O T hs)
 |_,_,.dk h hl hs=>.dk (O _ _ _ h) hl (IsL.keep G M O T hs)
 |_,_,.dt h hl hs=>.dt (T _ _ h) hl (IsL.keep G M O T hs)
theorem IsL.keep (G:∀a vs,jw K H a vs->jw K H' a vs)(M:∀a vs,ii K H a vs->ii K H' a vs)(O:∀a aR ob,H a=some (.dK aR ob)->H' a=some (.dK aR ob))(T:∀a aR,H a=some (.dT aR)->H' a=some (.dT aR)):∀ {vs:LV}{ds:LD},IsL K H vs ds->IsL K H' vs ds
 |_,_,.nil=>.nil
 |_,_,.cons h hs=>.cons (Is.keep G M O T h) (IsL.keep G M O T hs)
end
mutual
theorem Is.keepT (G:∀a vs,jw K H a vs->jw K H' a vs):∀ {v:V}{d:D},Is K H v d->bC d=true->Is K H' v d
 |_,_,.non,_=>.non
 |_,_,.bl b,_=>.bl b
 |_,_,.int i,_=>.int i
 |_,_,.str x,_=>.str x
 |_,_,.ty x,_=>.ty x
 |_,_,.tup h hs,n=>.tup (G _ _ h) (IsL.keepT G hs (by simpa using n))
 |_,_,.lst h hs,n=>by simp at n
 |_,_,.dk h hl hs,n=>by simp at n
 |_,_,.dt h hl hs,n=>by simp at n
theorem IsL.keepT (G:∀a vs,jw K H a vs->jw K H' a vs):∀ {vs:LV}{ds:LD},IsL K H vs ds->b8 ds=true->IsL K H' vs ds
 |_,_,.nil,_=>.nil
 |_,_,.cons h hs,n=>by
  simp at n;exact .cons (Is.keepT G h n.1) (IsL.keepT G hs n.2)
end
theorem bw (e:bc H H')(h:jw K H a xs):jw K H' a xs:=by
 rcases h with (h|⟨o,h⟩)|h
 .exact .inl (.inl (e _ _ h))
 .exact .inl (.inr ⟨o,e _ _ h⟩)
 .exact .inr h
theorem Is.mono (h:Is K H v d)(e:bc H H'):Is K H' v d:=h.keep (λ_ _=>bw e) (λ_ _=>e.seq) (λ_ _ _ q=>e _ _ q) λ_ _ q=>e _ _ q
theorem IsL.mono (h:IsL K H v d)(e:bc H H'):IsL K H' v d:=h.keep (λ_ _=>bw e) (λ_ _=>e.seq) (λ_ _ _ q=>e _ _ q) λ_ _ q=>e _ _ q
theorem IsL.length:∀ {vs:LV}{ds:LD},IsL K H vs ds->vs.length=ds.length
 |_,_,.nil=>rfl
 |_,_,.cons _ t=>congrArg _ t.length
theorem IsL.get:∀ {vs:LV}{ds:LD}{i:Nat}{d:D},IsL K H vs ds->ds[i]? = some d->∃v,vs[i]? = some v/\Is K H v d
 |_,_,_,_,.nil,e=>by simp at e
 |_,_,0,_,.cons h _,e=>by simp_all
 |_,_,i+1,d,.cons _ t,e=>by
  obtain⟨u,h1,h2⟩:=t.get   (by simpa using e);simp_all
theorem IsL.append:∀ {vs ws:LV}{ds es:LD},IsL K H vs ds->IsL K H ws es->IsL K H (vs++ws) (ds++es)
 |_,_,_,_,.nil,s=>s
 |_,_,_,_,.cons r t,s=>.cons r (t.append s)
theorem IsL.take:∀ {vs:LV}{ds:LD}(n:Nat),IsL K H vs ds->IsL K H (vs.take n) (ds.take n)
 |_,_,0,_=>by simpa using IsL.nil
 |_,_,_+1,.nil=>.nil
 |_,_,n+1,.cons r t=>.cons r (t.take n)
theorem IsL.drop:∀ {vs:LV}{ds:LD}(n:Nat),IsL K H vs ds->IsL K H (vs.drop n) (ds.drop n)
 |_,_,0,r=>r
 |_,_,_+1,.nil=>.nil
 |_,_,n+1,.cons _ t=>t.drop n
theorem IsL.set (h:Is K H v d):∀ {vs:LV}{ds:LD}(i:Nat),IsL K H vs ds->IsL K H (vs.set i v) (ds.set i d)
 |_,_,_,.nil=>.nil
 |_,_,0,.cons _ t=>.cons h t
 |_,_,i+1,.cons r t=>.cons r (IsL.set h i t)
theorem IsL.flat {vs:LV}{ns:LI}(h:vs=ns.map V.int):IsL K H vs (ns.map D.int):=by
 subst h;induction ns with
 |nil=>exact .nil
 |cons n ns ih=>exact .cons (.int n) ih
end
structure Ext (B N H H':Hp):Prop where
 hh:bc H H'
 bn:bc B N
 nh:bc N H'
 new:∀a o,N a=some o->B a=some o\/H a=none
theorem Ext.refl (h:bc B H):Ext B B H H:=⟨.refl _,.refl _,h,λ_ _ e=>.inl e⟩
theorem Ext.trans (x:Ext B N H G)(y:Ext N N2 G H2):Ext B N2 H H2 :=
 ⟨x.hh.trans y.hh,x.bn.trans y.bn,y.nh,λa o e=>(y.new a o e).elim (λq=>x.new a o q) λq=>.inr (x.hh.free q)⟩
theorem Ext.laid (h:bc B H)(hp:H p=none):Ext B (upd B p o) H (upd H p o):=by
 have hB :=h.free hp;refine⟨λa u e=>?_,λa u e=>?_,λa u e=>?_,λa u e=>?_⟩
 .grind[aK]
 .grind[aK]
 .by_cases q:a=p
  .simp_all[a8]
  .rw[aK q]at e |-;exact h _ _ e
 grind[aK]
theorem Ext.grow (h:bc B H)(hh:bc H H'):Ext B B H H':=⟨hh,.refl _,h.trans hh,λ_ _ e=>.inl e⟩
abbrev Env:=List OB
abbrev FE:=Env->OB
abbrev FA:=Env->Option LD
abbrev FT:=Env->Option Bool
def Qe (K:Frag)(H N:Hp)(v:V)(d:D):Prop:=∃(a:Addr)(vs:LV)(ds:LD),v=.ref a/\d=.lst ds/\H a=none/\N a=some (.lst vs)/\IsL K N vs ds
theorem Qe.back (h:Qe K H' N v d)(e:bc H H'):Qe K H N v d:=let ⟨a,vs,ds,q,y,z,r⟩:=h;⟨a,vs,ds,q,y,e.free z,r⟩
noncomputable def nM:LS:=["in_order","has_seal","is_first_death","bases_by","as_heard"]
noncomputable def vh (x:Str):Str:=x ++ ".<locals>." ++ "<lambda>"
def Tb (K:Frag)(B:Hp):Prop:=∀x∈nM,∀c P,PySem.W.tabIn K x=some (c,P)->B P=some (.tbl (vh x))
theorem Tb.mono (h:Tb K B)(e:bc B G):Tb K G:=λx hx c P q=>e _ _ (h x hx c P q)
structure gy (K:Frag)(B:Hp)(σ:St)(ρ:Env):Prop where
 tb:Tb K B
 at':∀(i:Nat)(d:D)(b:Bool),ρ[i]? = some (some (d,b))->∃v,σ[i]? = some (some v)/\Is K B v d
theorem gy.mono (h:gy K B σ ρ)(e:bc B G):gy K G σ ρ:=⟨h.tb.mono e,λi d b q=>let ⟨v,h1,h2⟩:=h.at' i d b q;⟨v,h1,h2.mono e⟩⟩
def Fin (K:Frag)(B H:Hp)(d:D)(b:Bool)(Q:VK):Prop:=∀(v:V)(H' N:Hp),Ext B N H H'->Is K N v d->(b=true->Qe K H N v d)->Q v H'
def tD (K:Frag)(f:FE):TE:=λσ H Q=>∃(B:Hp)(ρ:Env)(d:D)(b:Bool),bc B H/\gy K B σ ρ/\f ρ=some (d,b)/\Fin K B H d b Q
def Dh (K:Frag)(f:FT):TT:=λσ H Q=>∃(B:Hp)(ρ:Env)(c:Bool),bc B H/\gy K B σ ρ/\f ρ=some c/\∀H',bc H H'->Q c H'
def Qf (K:Frag)(f:FA):TA:=λσ H Q=>∃(B:Hp)(ρ:Env)(ds:LD),bc B H/\gy K B σ ρ/\f ρ=some ds/\∀(vs:LV)(H' N:Hp),Ext B N H H'->IsL K N vs ds->Q vs H'
def rD (K:Frag)(op:D->D->OB):R2:=λx y H Q=>∃(B:Hp)(dx G d:D)(b:Bool),bc B H/\Is K B x dx/\Is K B y G/\op dx G=some (d,b)/\Fin K B H d b Q
def Uh (K:Frag)(op:D->OB):V->Hp->VK->Prop:=λx H Q=>∃(B:Hp)(dx d:D)(b:Bool),bc B H/\Is K B x dx/\op dx=some (d,b)/\Fin K B H d b Q
def Di (K:Frag)(op:LD->OB):LV->Hp->VK->Prop:=λxs H Q=>∃(B:Hp)(ds:LD)(d:D)(b:Bool),bc B H/\IsL K B xs ds/\op ds=some (d,b)/\Fin K B H d b Q
theorem Fin.one (h:Fin K B H d false Q)(s:bc B H)(i:Is K B v d):Q v H:=h v H B (.refl s) i N9
theorem Fin.into (h:Fin K B H d b Q)(x:Ext B N H M):Fin K N M d b Q:=λv H' N' y i G=>h v H' N' (x.trans y) i λe=>(G e).back x.hh
@[simp] noncomputable def fC (d:D):FE:=λ_=>some (d,false)
@[simp] noncomputable def aj (i:Nat):FE:=λρ=>match ρ[i]? with|some (some (d,_))=>some (d,false)|_=>none
@[simp] noncomputable def f2 (op:D->D->OB)(fa G:FE):FE:=λρ=>(fa ρ).bind λx=>(G ρ).bind λy=>op x.1 y.1
@[simp] noncomputable def f1 (op:D->OB)(fa:FE):FE:=λρ=>(fa ρ).bind λx=>op x.1
@[simp] noncomputable def ai:FA:=λ_=>some []
@[simp] noncomputable def af (fa:FE)(G:FA):FA:=λρ=>(fa ρ).bind λx=>(G ρ).bind λxs=>some (x.1::xs)
@[simp] noncomputable def fA (op:LD->OB)(fa:FA):FE:=λρ=>(fa ρ).bind op
theorem Oj (h:tD K (aj i) σ H Q):∃v,σ[i]? = some (some v)/\Q v H:=by
 obtain⟨B,ρ,d,b,s,r,e,q⟩:=h;unfold aj at e;split at e
 .rename_i d' b' G;cases e
  obtain⟨v,h1,h2⟩:=r.at' i _ _ G;exact⟨v,h1,q.one s h2⟩
 simp_all
theorem K7 (h:tD K (f2 op fa fb) σ H Q):tD K fa σ H λx O=>tD K fb σ O λy H2=>rD K op x y H2 Q:=by
 obtain⟨B,ρ,d,b,s,r,e,q⟩:=h;obtain⟨x,ex,e⟩:=oX e;obtain⟨y,T,e⟩:=oX e;refine⟨B,ρ,x.1,x.2,s,r,ex,λv O N G i1 _=>⟨N,ρ,y.1,y.2,G.nh,r.mono G.bn,T,λU H2 N2 M i2 _=>⟨N2,x.1,y.1,d,b,M.nh,i1.mono M.bn,i2,e,?_⟩⟩⟩;exact q.into (G.trans M)
theorem Ui (h:tD K (f1 op fa) σ H Q):tD K fa σ H λx G=>Uh K op x G Q:=by
 obtain⟨B,ρ,d,b,s,r,e,q⟩:=h;obtain⟨x,ex,e⟩:=oX e;exact⟨B,ρ,x.1,x.2,s,r,ex,λv G N M i1 _=>⟨N,x.1,d,b,M.nh,i1,e,q.into M⟩⟩
theorem K8 (h:tD K (fA op fa) σ H Q):Qf K fa σ H λxs G=>Di K op xs G Q:=by
 obtain⟨B,ρ,d,b,s,r,e,q⟩:=h;obtain⟨x,ex,e⟩:=oX e;exact⟨B,ρ,x,s,r,ex,λv G N M i1=>⟨N,x,d,b,M.nh,i1,e,q.into M⟩⟩
theorem K9 (h:Qf K ai σ H Q):Q [] H:=by
 obtain⟨B,ρ,ds,s,r,e,q⟩:=h;cases e
 exact q [] H B (.refl s) .nil
theorem GU (h:Qf K (af fa U) σ H Q):tD K fa σ H λx M=>Qf K U σ M λxs H2=>Q (x::xs) H2:=by
 obtain⟨B,ρ,ds,s,r,e,q⟩:=h;obtain⟨x,ex,e⟩:=oX e;obtain⟨y,T,e⟩:=oX e;cases e
 exact⟨B,ρ,x.1,x.2,s,r,ex,λv M N G i1 _=>⟨N,ρ,y,G.nh,r.mono G.bn,T,λvs H2 N2 O i2=>q _ H2 N2 (G.trans O) (.cons (i1.mono O.bn) i2)⟩⟩
@[simp] noncomputable def aY (f:FE):FT:=λρ=>match f ρ with|some (.bl c,_)=>some c|_=>none
@[simp] noncomputable def fy (f g:FT):FT:=λρ=>match f ρ with|some true=>g ρ|some false=>some false|none=>none
@[simp] noncomputable def dC (f g:FT):FT:=λρ=>match f ρ with|some true=>some true|some false=>g ρ|none=>none
@[simp] noncomputable def cf (f:FT):FT:=λρ=>(f ρ).map (!·)
open Classical in
noncomputable def gg (H:Hp)(P:Addr->Prop):Hp:=λa=>if P a then none else H a
theorem dD (h:¬P a):gg H P a=H a:=by unfold gg;rw[if_neg h]
theorem BO (h:P a):gg H P a=none:=by unfold gg;rw[if_pos h]
theorem rq (h:gg H P a=some o):¬P a/\H a=some o:=by
 grind[BO,dD]
theorem bW:bc (gg H P) H:=λ_ _ e=>(rq e).2
theorem fz (e:∀a o,H a=some o->¬P a->H' a=some o/\¬G a):bc (gg H P) (gg H' G):=λa o q=>by
 grind[rq,dD]
noncomputable def join (N N':Hp):Hp:=λa=>match N a with|some o=>some o|none=>N' a
theorem gl:bc N (join N N'):=λa o e=>by unfold join;rw[e]
theorem eO (e:N a=none):join N N' a=N' a:=by unfold join;rw[e]
def own (σ:St)(ρ:Env)(a:Addr):Prop:=∃(i:Nat)(d:D),ρ[i]? = some (some (d,true))/\σ[i]? = some (some (V.ref a))
inductive Bx (K:Frag)(C:Hp):HO->D->Prop where
 |lst {vs:List V}{ds:List D}(h:IsL K C vs ds):Bx K C (.lst vs) (.lst ds)
 |dk {ks:List ft}{vs:List V}{ds:List D}(hl:ks.length=vs.length) (h:IsL K C vs ds) {ob:Obj}:Bx K C (.dK (ks.zip vs) ob) (.dk ks ds)
 |dt {ks:List (List ft)}{vs:List V}{ds:List D}(hl:ks.length=vs.length) (h:IsL K C vs ds):Bx K C (.dT (ks.zip vs)) (.dt ks ds)
theorem Bx.mono (h:Bx K C o d)(e:bc C G):Bx K G o d:=by
 cases h with
 |lst h=>exact .lst (h.mono e)
 |dk hl h=>exact .dk hl (h.mono e)
 |dt hl h=>exact .dt hl (h.mono e)
theorem Bx.is (h:Bx K C o d)(e:C a=some o):Is K C (.ref a) d:=by
 cases h with
 |lst h=>exact .lst (ii.of e) h
 |dk hl h=>exact .dk e hl h
 |dt hl h=>exact .dt e hl h
structure eN (K:Frag)(B0 H0 N H:Hp)(σ:St)(ρ:Env):Prop where
 bh:bc B0 H0
 tb:Tb K B0
 ext:Ext B0 N H0 H
 len:ρ.length=σ.length
 sh:∀(i:Nat)(d:D),ρ[i]? = some (some (d,false))->∃v,σ[i]? = some (some v)/\Is K (gg N (own σ ρ)) v d
 ow:∀(i:Nat)(d:D),ρ[i]? = some (some (d,true))->∃(a:Addr)(o:HO),σ[i]? = some (some (V.ref a))/\N a=some o/\H0 a=none/\Bx K (gg N (own σ ρ)) o d
 inj:∀(i j:Nat)(a:Addr)(d e:D),ρ[i]? = some (some (d,true))->ρ[j]? = some (some (e,true))->σ[i]? = some (some (V.ref a))->σ[j]? = some (some (V.ref a))->i=j
def xZ (K:Frag)(B0 H0 H:Hp)(σ:St)(ρ:Env):Prop:=∃N,eN K B0 H0 N H σ ρ
section
variable {K:Frag}{B0 H0 N H H':Hp}{σ:St}{ρ:Env}
theorem eN.owL (s:eN K B0 H0 N H σ ρ)(i:Nat)(d:D)(q:ρ[i]? = some (some (.lst es,true)))(hd:d=.lst es:=by rfl):∃(a:Addr)(vs:LV)(ds:LD),d=.lst ds/\σ[i]? = some (some (V.ref a))/\N a=some (.lst vs)/\H0 a=none/\IsL K (gg N (own σ ρ)) vs ds:=by
 obtain⟨a,o,h1,h2,h3,h4⟩:=s.ow i _ q;cases h4 with
 |lst h4=>exact⟨a,_,es,hd,h1,h2,h3,h4⟩
def boxed:HO->Prop
 |.lst _|.dK _ _|.dT _=>True
 |_=>False
theorem Bx.boxed (h:Bx K C o d):boxed o:=by cases h<;>exact trivial
theorem eN.owned (s:eN K B0 H0 N H σ ρ)(h:own σ ρ a):∃o,(N a=some o/\boxed o)/\H0 a=none:=by
 obtain⟨i,d,h1,h2⟩:=h;obtain⟨M,o,h3,h4,h5,G⟩:=s.ow i d h1;rw[h2]at h3;cases h3;exact⟨o,⟨h4,G.boxed⟩,h5⟩
theorem eN.rep (s:eN K B0 H0 N H σ ρ):gy K N σ ρ:=⟨s.tb.mono s.ext.bn,λi d b q=>by
 cases b with
 |false=>obtain⟨v,h1,h2⟩:=s.sh i d q;exact⟨v,h1,h2.mono bW⟩
 |true=>
  obtain⟨a,o,h2,h3,_,h4⟩:=s.ow i d q;exact⟨_,h2,(h4.mono bW).is h3⟩⟩
noncomputable def jV (ρ:Env):Env:=ρ.map λx=>match x with|some (d,false)=>some (d,false)|_=>none
theorem GV {i:Nat}{d:D}{b:Bool}(h:(jV ρ)[i]? = some (some (d,b))):b=false/\ρ[i]? = some (some (d,false)):=by
 unfold jV at h;rw[vA]at h;cases e:ρ[i]? with
 |none=>rw[e]at h;cases h
 |some x=>
  rw[e]at h;match x,h with
  |some (d',false),h=>cases h;exact⟨rfl,rfl⟩
  |some (d',true),h=>cases h
  |none,h=>cases h
theorem eN.tbC (s:eN K B0 H0 N H σ ρ):Tb K (gg N (own σ ρ)):=λx hx c P q=>by
 have z:=s.tb.mono s.ext.bn x hx c P q;rw[dD]
 .exact z
 .intro y;obtain⟨o,⟨y,G⟩,_⟩:=s.owned y;rw[z]at y;cases y;exact G
theorem eN.repH (s:eN K B0 H0 N H σ ρ):gy K (gg N (own σ ρ)) σ (jV ρ):=⟨s.tbC,λi d b q=>by
 obtain⟨rfl,G⟩:=GV q;exact s.sh i d G⟩
theorem eN.grow (s:eN K B0 H0 N H σ ρ)(x:Ext N N' H H'):eN K B0 H0 N' H' σ ρ:=by
 have c:bc (gg N (own σ ρ)) _:=fz λa o e q=>⟨x.bn a o e,q⟩;refine⟨s.bh,s.tb,s.ext.trans x,s.len,λi d q=>?_,λi d q=>?_,s.inj⟩
 .obtain⟨v,h1,h2⟩:=s.sh i d q;exact⟨v,h1,h2.mono c⟩
 .obtain⟨a,o,h2,h3,h4,h5⟩:=s.ow i d q;exact⟨a,o,h2,x.bn _ _ h3,h4,h5.mono c⟩
theorem eN.growH (s:eN K B0 H0 N H σ ρ)(x:Ext (gg N (own σ ρ)) N' H H'):eN K B0 H0 (join N N') H' σ ρ/\bc N' (gg (join N N') (own σ ρ)):=by
 have G:Ext N (join N N') H H':=by
  refine⟨x.hh,gl,λa o e=>?_,λa o e=>?_⟩
  .cases q:N a with
   |some u=>
    have:join N N' a=some u:=gl _ _ q;rw[this]at e;cases e;exact x.hh _ _ (s.ext.nh _ _ q)
   |none=>rw[eO q]at e;exact x.nh _ _ e
  .cases q:N a with
   |some u=>
    simp_all[join]
   |none=>
    rw[eO q]at e;rcases x.new a o e with z|z
    .have:=bW _ _ z;simp_all
    .exact .inr z
 refine⟨s.grow G,λa o e=>?_⟩;rcases x.new a o e with z|z
 .obtain⟨M,O⟩:=rq z;rw[dD M];exact gl _ _ O
 .have T :=s.ext.nh.free z;have:¬own σ ρ a:=λq=>by obtain⟨vs,⟨q,_⟩,_⟩:=s.owned q;lia
  simp_all[dD,eO]
noncomputable def unown (ρ:Env):Env:=ρ.map λx=>x.map λy=>(y.1,false)
theorem lX {i:Nat}{d:D}{b:Bool}(h:(unown ρ)[i]? = some (some (d,b))):b=false/\∃c,ρ[i]? = some (some (d,c)):=by
 unfold unown at h;simp_all<;>lia
theorem wj {a:Addr}:¬own σ (unown ρ) a:=λ⟨i,d,h,_⟩=>by
 obtain⟨z,_⟩:=lX h;cases z
theorem eN.unown (s:eN K B0 H0 N H σ ρ):eN K B0 H0 N H σ (unown ρ):=by
 refine⟨s.bh,s.tb,s.ext,by unfold DL.unown;rw[vI];exact s.len,λi d q=>?_,λi d q=>?_,λi j a d e q=>?_⟩
 .obtain⟨_,c,q⟩:=lX q;obtain⟨v,h1,h2⟩:=s.rep.at' i d c q;exact⟨v,h1,h2.mono λa o e=>by rw[dD wj];exact e⟩
 .obtain⟨z,_⟩:=lX q;cases z
 .obtain⟨z,_⟩:=lX q;cases z
theorem cm {α:Type}{l:List α}{i j:Nat}{x y:α}(h:(l.set i x)[j]? = some y):(i=j/\x=y)\/(i≠j/\l[j]? = some y):=by
 by_cases e:i=j
 .subst e;rw[List.getElem?_set]at h;split at h
  .split at h
   .exact .inl ⟨rfl,vK h⟩
   .cases h
  .contradiction
 .rw[vB e]at h;exact .inr ⟨e,h⟩
theorem wl {α G:Type}{l:List α}{m:List G}{i:Nat}{x y:α}(h:(l.set i x)[i]? = some y)(e:l.length=m.length):i<m.length:=by
 obtain⟨h,_⟩:=vV h;rw[length_set]at h;lia
theorem ya {i:Nat}{v:V}{x:OB}{a:Addr}(h:own (σ.set i (some v)) (ρ.set i x) a):(v=.ref a/\∃d,x=some (d,true))\/∃j,j≠i/\∃d,ρ[j]? = some (some (d,true))/\σ[j]? = some (some (V.ref a)):=by
 obtain⟨j,d,h1,h2⟩:=h;rcases cm h1 with⟨e,q⟩|⟨e,q⟩
 .rcases cm h2 with⟨e2,G⟩|⟨e2,G⟩
  .cases G;exact .inl ⟨rfl,d,q⟩
  .exact absurd e e2
 .rcases cm h2 with⟨e2,G⟩|⟨e2,G⟩
  .exact absurd e2 e
  .exact .inr ⟨j,λz=>e z.symm,d,q,G⟩
theorem eN.bind (s:eN K B0 H0 N H σ ρ){i:Nat}{v:V}{d:D}(h:Is K (gg N (own σ ρ)) v d):eN K B0 H0 N H (σ.set i (some v)) (ρ.set i (some (d,false))):=by
 have o:∀a,own (σ.set i (some v)) (ρ.set i (some (d,false))) a->own σ ρ a:=λa q=>by
  rcases ya q with⟨_,d',p⟩|⟨j,_,d',O,T⟩
  .cases p
  .exact⟨j,d',O,T⟩
 have c:bc (gg N _) _:=fz λa u e q=>⟨e,λz=>q (o a z)⟩;refine⟨s.bh,s.tb,s.ext,by simp[s.len],λj e q=>?_,λj e q=>?_,λj k a e f q U h1 h2=>?_⟩
 .rcases cm q with⟨rfl,p⟩|⟨ne,p⟩
  .cases p
   have hi:=wl q s.len;exact⟨v,by simp[hi],h.mono c⟩
  .obtain⟨w,h1,h2⟩:=s.sh j e p;exact⟨w,by simp_all,h2.mono c⟩
 .rcases cm q with⟨rfl,p⟩|⟨ne,p⟩
  .cases p
  .obtain⟨a,o,h1,h2,h3,h4⟩:=s.ow j e p;exact⟨a,o,by simp_all,h2,h3,h4.mono c⟩
 .rcases cm q with⟨rfl,p⟩|⟨ne,p⟩
  .cases p
  .rcases cm U with⟨rfl,G⟩|⟨M,G⟩
   .cases G
   .rw[vB ne]at h1;rw[vB M]at h2;exact s.inj j k a e f p G h1 h2
theorem eN.bindOwn (s:eN K B0 H0 N H σ ρ){i:Nat}{a:Addr}{ob:HO}{dd:D}(h:N a=some ob)(h0:H0 a=none)(M:∀(j:Nat)(d:D),ρ[j]? = some (some (d,true))->σ[j]? ≠ some (some (V.ref a)))
  (U:∀(j:Nat)(d:D),j≠i->ρ[j]? = some (some (d,false))->∃v,σ[j]? = some (some v)/\Is K (gg N (λb=>own σ ρ b\/b=a)) v d) (l:∀(j:Nat)(d:D),j≠i->ρ[j]? = some (some (d,true))->∃(O:Addr)(o:HO),σ[j]? = some (some (V.ref O))/\N O=some o/\Bx K (gg N (λb=>own σ ρ b\/b=a)) o d)
  (m:Bx K (gg N (λb=>own σ ρ b\/b=a)) ob dd):eN K B0 H0 N H (σ.set i (some (.ref a))) (ρ.set i (some (dd,true))):=by
 have o:∀b,own (σ.set i (some (V.ref a))) (ρ.set i (some (dd,true))) b->own σ ρ b\/b=a:=λb q=>by
  rcases ya q with⟨p,_⟩|⟨j,_,d',n,r⟩
  .cases p;exact .inr rfl
  .exact .inl ⟨j,d',n,r⟩
 have c:bc (gg N _) _:=fz λb u e q=>⟨e,λz=>q (o b z)⟩;refine⟨s.bh,s.tb,s.ext,by simp[s.len],λj e q=>?_,λj e q=>?_,λj k b e f q g h1 h2=>?_⟩
 .rcases cm q with⟨rfl,p⟩|⟨ne,p⟩
  .cases p
  .obtain⟨w,h1,h2⟩:=U j e (Ne.symm ne) p;exact⟨w,by simp_all,h2.mono c⟩
 .rcases cm q with⟨rfl,p⟩|⟨ne,p⟩
  .cases p
   have hi:=wl q s.len;exact⟨a,ob,by simp[hi],h,h0,m.mono c⟩
  .obtain⟨O,o',h1,h2,h4⟩:=l j e (Ne.symm ne) p;have h3:H0 O=none:=by
    obtain⟨y,_,k1,_,k3,_⟩:=s.ow j e p;simp_all
   exact⟨O,o',by simp_all,h2,h3,h4.mono c⟩
 .rcases cm q with⟨rfl,p⟩|⟨ne,p⟩
  .rcases cm g with⟨rfl,T⟩|⟨G,T⟩
   .rfl
   .rw[vB G]at h2;have t:V.ref a=V.ref b:=by
     rcases cm h1 with⟨_,z⟩|⟨z,_⟩
     .exact vK z
     .exact absurd rfl z
    cases t
    exact absurd h2 (M k f T)
  .rcases cm g with⟨rfl,T⟩|⟨G,T⟩
   .rw[vB ne]at h1;have x:V.ref a=V.ref b:=by
     rcases cm h2 with⟨_,z⟩|⟨z,_⟩
     .exact vK z
     .exact absurd rfl z
    cases x
    exact absurd h1 (M j e p)
   .rw[vB ne]at h1;rw[vB G]at h2;exact s.inj j k b e f p T h1 h2
end
inductive Res where
 |nx (ρ:Env)|rt (d:D) (b:Bool)|bk (ρ:Env)|ct (ρ:Env)
abbrev FS:=Env->Option Res
def Rh (K:Frag)(B0 H0:Hp)(E:Ends):Res->Prop
 |.nx ρ=>∀σ H,xZ K B0 H0 H σ ρ->E.nx σ H
 |.rt d b=>∀v H N,Ext B0 N H0 H->Is K N v d->(b=true->Qe K H0 N v d)->E.rt v H
 |.bk ρ=>∀σ H,xZ K B0 H0 H σ ρ->E.bk σ H
 |.ct ρ=>∀σ H,xZ K B0 H0 H σ ρ->E.ct σ H
def pb (K:Frag)(g:FS):TS:=λE σ H=>∃(B0 H0:Hp)(ρ:Env)(r:Res),xZ K B0 H0 H σ ρ/\g ρ=some r/\Rh K B0 H0 E r
section
variable {K:Frag}{B0 H0 N H H':Hp}{σ:St}{ρ:Env}{E:Ends}
theorem eN.writeB (s:eN K B0 H0 N H σ ρ)(hi:ρ[i]? = some (some (d,true)))(G:σ[i]? = some (some (V.ref a)))(h:Bx K (gg N (own σ ρ)) ob dd):
  eN K B0 H0 (upd N a ob) (upd H a ob) σ (ρ.set i (some (dd,true))):=by
 have oa:own σ ρ a:=⟨i,d,hi,G⟩;obtain⟨ws,hw,h0⟩:=s.owned oa;have g:B0 a=none:=s.bh.free h0;have o:∀b,own σ (ρ.set i (some (dd,true))) b↔own σ ρ b:=λb=>by
  constructor
  .rintro⟨j,e,O,M⟩;rcases cm O with⟨rfl,p⟩|⟨_,p⟩
   .exact⟨i,d,hi,M⟩
   .exact⟨j,e,p,M⟩
  .rintro⟨j,e,O,M⟩;by_cases z:i=j
   .subst z;exact⟨i,dd,by rw[getElem?_set_self (vV hi).1],M⟩
   .exact⟨j,e,by simp_all,M⟩
 have c:bc (gg N (own σ ρ)) (gg (upd N a ob) (own σ (ρ.set i (some (dd,true))))):=fz λb u e q=>by
  have ne:b≠a:=λz=>q (z ▸ oa);exact⟨by rw[aK ne];exact e,λz=>q ((o b).mp z)⟩
 refine⟨s.bh,s.tb,⟨λb u e=>?_,λb u e=>?_,λb u e=>?_,λb u e=>?_⟩,by rw[length_set];exact s.len,λj e q=>?_,λj e q=>?_,λj k b e f q l h1 h2=>?_⟩
 .rw[aK (λz=>by subst z;rw[h0]at e;cases e)];exact s.ext.hh _ _ e
 .rw[aK (λz=>by subst z;rw[g]at e;cases e)];exact s.ext.bn _ _ e
 .by_cases z:b=a
  .simp_all[a8]
  .rw[aK z]at e |-;exact s.ext.nh _ _ e
 .by_cases z:b=a
  .subst z;exact .inr h0
  .rw[aK z]at e;exact s.ext.new _ _ e
 .rcases cm q with⟨rfl,p⟩|⟨ne,p⟩
  .cases p
  .obtain⟨v,h1,h2⟩:=s.sh j e p;exact⟨v,h1,h2.mono c⟩
 .rcases cm q with⟨rfl,p⟩|⟨ne,p⟩
  .cases p
   exact⟨a,ob,G,a8,h0,h.mono c⟩
  .obtain⟨U,o',h1,h2,h3,h4⟩:=s.ow j e p;have m:U≠a:=λz=>by subst z;exact ne (s.inj i j _ d e hi p G h1)
   exact⟨U,o',h1,by rw[aK m];exact h2,h3,h4.mono c⟩
 .have get:∀ {j:Nat}{e:D},(ρ.set i (some (dd,true)))[j]? = some (some (e,true))->∃T,ρ[j]? = some (some (T,true)):=λ{j e} q=>by
   rcases cm q with⟨rfl,p⟩|⟨ne,p⟩
   .exact⟨d,hi⟩
   .exact⟨e,p⟩
  obtain⟨T,O⟩:=get q;obtain⟨n,M⟩:=get l;exact s.inj j k b T n O M h1 h2
theorem eN.write (s:eN K B0 H0 N H σ ρ)(hi:ρ[i]? = some (some (d,true)))(G:σ[i]? = some (some (V.ref a)))(h:IsL K (gg N (own σ ρ)) vs ds):
  eN K B0 H0 (upd N a (.lst vs)) (upd H a (.lst vs)) σ (ρ.set i (some (.lst ds,true))):=s.writeB hi G (.lst h)
theorem eN.tups (s:eN K B0 H0 N H σ ρ):∀a vs,jw K N a vs->jw K (gg N (own σ ρ)) a vs:=λa vs h=>by
 have G:∀u,N a=some u->¬boxed u->gg N _ a=some u:=λu e hu=>by
  rw[dD λz=>?_];exact e;obtain⟨ws,⟨q,M⟩,_⟩:=s.owned z;simp_all
 rcases h with (h|⟨o,h⟩)|h
 .exact .inl (.inl (G _ h (λq=>q)))
 .exact .inl (.inr ⟨o,G _ h (λq=>q)⟩)
 .exact .inr h
theorem eN.flat (s:eN K B0 H0 N H σ ρ)(h:Is K N v d)(n:bC d=true):Is K (gg N (own σ ρ)) v d:=h.keepT s.tups n
theorem eN.flats (s:eN K B0 H0 N H σ ρ)(h:IsL K N v d)(n:b8 d=true):IsL K (gg N (own σ ρ)) v d:=h.keepT s.tups n
theorem eN.rebase (s:eN K B0 H0 N H σ ρ):eN K (gg N (own σ ρ)) (gg H (own σ ρ)) N H σ ρ :=
 ⟨fz λa o e q=>⟨s.ext.nh _ _ e,q⟩,s.tbC,⟨bW,bW,s.ext.nh,λa o e=>by
  grind[BO,dD]⟩,s.len,s.sh,λi d q=>by
   obtain⟨a,o,h1,h2,_,h4⟩:=s.ow i d q;exact⟨a,o,h1,h2,BO ⟨i,d,q,h1⟩,h4⟩,s.inj⟩
theorem eN.unbase (s:eN K B0 H0 N H σ ρ)(t:eN K (gg N (own σ ρ)) (gg H (own σ ρ)) N' H' M ρ'):eN K B0 H0 N' H' M ρ':=by
 have h0:bc H0 (gg H (own σ ρ)):=λa o e=>by
  rw[dD λz=>?_];exact s.ext.hh _ _ e;obtain⟨_,_,q⟩:=s.owned z;lia
 have G:bc B0 (gg N (own σ ρ)):=λa o e=>by
  rw[dD λz=>?_];exact s.ext.bn _ _ e;obtain⟨_,_,q⟩:=s.owned z;rw[s.bh _ _ e]at q;cases q
 refine⟨s.bh,s.tb,⟨h0.trans t.ext.hh,G.trans t.ext.bn,t.ext.nh,λa o e=>?_⟩,t.len,t.sh,λi d q=>?_,t.inj⟩
 .rcases t.ext.new a o e with z|z
  .exact s.ext.new a o (bW _ _ z)
  .exact .inr (h0.free z)
 .obtain⟨a,o,h1,h2,h3,h4⟩:=t.ow i d q;exact⟨a,o,h1,h2,h0.free h3,h4⟩
theorem eN.based (t:eN K B0 H0 N H σ ρ):bc B0 (gg N (own σ ρ)):=λa o e=>by
 rw[dD λz=>?_];exact t.ext.bn _ _ e;obtain⟨_,_,q⟩:=t.owned z;rw[t.bh _ _ e]at q;cases q
@[simp] noncomputable def a6 (g h:FS):FS:=λρ=>match g ρ with|some (.nx ρ')=>h ρ'|r=>r
@[simp] noncomputable def aV:FS:=λρ=>some (.nx ρ)
@[simp] noncomputable def dc (c:FT)(g h:FS):FS:=λρ=>match c ρ with|some true=>g ρ|some false=>h ρ|none=>none
@[simp] noncomputable def aH (f:FE):FS:=λρ=>(f ρ).map λx=>.rt x.1 x.2
@[simp] noncomputable def GW:D->Bool
 |.dk _ _=>true
 |.dt _ _=>true
 |_=>false
@[simp] def gU (i:Nat):FS:=λρ=>match ρ[i]? with|some (some (d,b))=>some (.rt d (b && !GW d))|_=>none
@[simp] def MF:D->Bool
 |.lst ds=>b8 ds
 |_=>false
@[simp] def setE (ρ:Env)(i:Nat)(d:D)(b:Bool):Env :=
 if bC d=true then ρ.set i (some (d,false))else if b=true/\MF d=true then ρ.set i (some (d,true))else (unown ρ).set i (some (d,false))
@[simp] def aU (i:Nat)(f:FE):FS:=λρ=>(f ρ).map λx=>.nx (setE ρ i x.1 x.2)
@[simp] def Dj (i:Nat)(f:FE):FS:=λρ=>(f (jV ρ)).map λx=>.nx (ρ.set i (some (x.1,false)))
@[simp] def jW (i:Nat)(f:FE):FS:=λρ=>match ρ[i]? with
 |some (some (.lst ds,true))=>(f ρ).bind λx=>if bC x.1=true/\ds.length<sizeLine then some (.nx (ρ.set i (some (.lst (ds++[x.1]),true))))else none
 |_=>none
theorem KA (q:pb K (a6 g h) E σ H):Q6 (pb K g) (pb K h) E σ H:=by
 obtain⟨B0,H0,ρ,r,s,e,p⟩:=q;unfold a6 at e;cases G:g ρ with
 |none=>rw[G]at e;cases e
 |some M=>
  rw[G]at e;cases M with
  |nx ρ'=>exact⟨B0,H0,ρ,.nx _,s,G,λO H' s'=>⟨B0,H0,ρ',r,s',e,p⟩⟩
  |rt d b=>cases e;exact⟨B0,H0,ρ,_,s,G,p⟩
  |bk ρ'=>cases e;exact⟨B0,H0,ρ,_,s,G,p⟩
  |ct ρ'=>cases e;exact⟨B0,H0,ρ,_,s,G,p⟩
theorem GX (q:pb K aV E σ H):M6 E σ H:=by
 obtain⟨B0,H0,ρ,r,s,e,p⟩:=q;cases e
 exact p σ H s
theorem xZ.grown (s:eN K B0 H0 N H σ ρ)(h:bc H H'):xZ K B0 H0 H' σ ρ:=⟨N,s.grow (.grow s.ext.nh h)⟩
theorem Ol (q:pb K (dc c g h) E σ H):Q9 (Dh K c) (pb K g) (pb K h) E σ H:=by
 obtain⟨B0,H0,ρ,r,⟨N,s⟩,e,p⟩:=q;unfold dc at e;cases G:c ρ with
 |none=>rw[G]at e;cases e
 |some b=>
  rw[G]at e;refine⟨N,ρ,b,s.ext.nh,s.rep,G,λM h1=>?_⟩;cases b with
  |true=>exact⟨B0,H0,ρ,r,.grown s h1,e,p⟩
  |false=>exact⟨B0,H0,ρ,r,.grown s h1,e,p⟩
theorem KE (q:pb K (aH f) E σ H):NG (tD K f) E σ H:=by
 obtain⟨B0,H0,ρ,r,⟨N,s⟩,e,p⟩:=q;obtain⟨x,ex,e⟩:=oY e;subst e;exact⟨N,ρ,x.1,x.2,s.ext.nh,s.rep,ex,λv G N1 M i1 f1=>p v G N1 (s.ext.trans M) i1 λb=>(f1 b).back s.ext.hh⟩
theorem GY (q:pb K (gU i) E σ H):NG (qH i) E σ H:=by
 obtain⟨B0,H0,ρ,r,⟨N,s⟩,e,p⟩:=q;unfold gU at e;split at e
 .rename_i d b ei;cases e
  cases b with
  |false=>
   obtain⟨v,h1,h2⟩:=s.sh i d ei;exact⟨v,h1,p v H N s.ext (h2.mono bW) N9⟩
  |true=>
   obtain⟨a,o,h1,h2,h3,h4⟩:=s.ow i d ei;cases h4 with
   |lst h4=>exact⟨_,h1,p _ H N s.ext (.lst (ii.of h2) (h4.mono bW)) λ_=>⟨a,_,_,rfl,rfl,h3,h2,h4.mono bW⟩⟩
   |dk hl h4=>exact⟨_,h1,p _ H N s.ext (.dk h2 hl (h4.mono bW)) N9⟩
   |dt hl h4=>exact⟨_,h1,p _ H N s.ext (.dt h2 hl (h4.mono bW)) N9⟩
 simp_all
theorem eN.setE (s:eN K B0 H0 N H σ ρ)(x:Ext N N1 H H1)(h:Is K N1 v d)(f:b=true->Qe K H N1 v d):eN K B0 H0 N1 H1 (σ.set i (some v)) (setE ρ i d b):=by
 have s1:=s.grow x;unfold DL.setE;by_cases hn:bC d=true
 .rw[if_pos hn];exact s1.bind (s1.flat h hn)
 .rw[if_neg hn];by_cases hb:b=true/\MF d=true
  .rw[if_pos hb];obtain⟨a,vs,ds,rfl,rfl,ha,M,hs⟩:=f hb.1;have O:N a=none:=s.ext.nh.free ha;have T:¬own σ ρ a:=λz=>by obtain⟨ws,⟨q,_⟩,_⟩:=s.owned z;lia
   have c:bc (gg N (own σ ρ)) (gg N1 (λb=>own σ ρ b\/b=a)):=fz λb u e q=>⟨x.bn _ _ e,λz=>z.elim q λz=>by subst z;rw[O]at e;cases e⟩;refine s1.bindOwn M (s.ext.hh.free ha) (λj e q z=>T ⟨j,e,q,z⟩) (λj e _ q=>?_) (λj e _ q=>?_) (.lst (hs.keepT (λt g st=>?_) hb.2))
   .obtain⟨w,h1,h2⟩:=s.sh j e q;exact⟨w,h1,h2.mono c⟩
   .obtain⟨U,o',h1,h2,_,h4⟩:=s.ow j e q;exact⟨U,o',h1,x.bn _ _ h2,h4.mono c⟩
   .have G:∀u,N1 t=some u->¬boxed u->gg N1 (λb=>own σ ρ b\/b=a) t=some u:=λu e hu=>by
     rw[dD λz=>?_];exact e;rcases z with z|z
     .obtain⟨ws,⟨q,k⟩,_⟩:=s1.owned z;simp_all
     .subst z;rw[e]at M;cases M;exact hu trivial
    rcases st with (st|⟨o,st⟩)|st
    .exact .inl (.inl (G _ st (λq=>q)))
    .exact .inl (.inr ⟨o,G _ st (λq=>q)⟩)
    .exact .inr st
  .rw[if_neg hb];exact s1.unown.bind (h.mono λa o e=>by rw[dD wj];exact e)
theorem Dk (q:pb K (aU i f) E σ H):EG (tD K f) (lm i) E σ H:=by
 obtain⟨B0,H0,ρ,r,⟨N,s⟩,e,p⟩:=q;obtain⟨x,ex,e⟩:=oY e;subst e;exact⟨N,ρ,x.1,x.2,s.ext.nh,s.rep,ex,λv G N1 M i1 f1=>p _ G ⟨N1,s.setE M i1 f1⟩⟩
theorem GZ (q:pb K (Dj i f) E σ H):EG (tD K f) (lm i) E σ H:=by
 obtain⟨B0,H0,ρ,r,⟨N,s⟩,e,p⟩:=q;obtain⟨x,ex,e⟩:=oY e;subst e;refine⟨gg N _,jV ρ,x.1,x.2,bW.trans s.ext.nh,s.repH,ex,λv G N1 M i1 f1=>?_⟩;obtain⟨s1,c⟩:=s.growH M;exact p _ G ⟨_,s1.bind (i1.mono c)⟩
theorem KG (q:pb K (jW i f) E σ H):∃(a:Addr)(us:LV),σ[i]? = some (some (V.ref a))/\H a=some (.lst us)/\MA (tD K f) QR σ H λxs H2=>Dc (.ref a) xs H2 λ_ O=>E.nx σ O:=by
 obtain⟨B0,H0,ρ,r,⟨N,s⟩,e,p⟩:=q;unfold jW at e;split at e
 .rename_i ds ei;obtain⟨x,ex,e⟩:=oX e;split at e
  .rename_i hx;cases e
   obtain⟨a,vs,G,z,h1,h2,h3,h4⟩:=s.owL i _ ei;cases z
   refine⟨a,vs,h1,s.ext.nh _ _ h2,N,ρ,x.1,x.2,s.ext.nh,s.rep,ex,λv U N1 M i1 f1=>⟨a,vs,v,rfl,rfl,M.hh _ _ (s.ext.nh _ _ h2),by rw[h4.length];exact hx.2,?_⟩⟩;have s1:=s.grow M;obtain⟨b,T,G,z,k1,k2,_,k4⟩:=s1.owL i _ ei;cases z
   rw[h1]at k1;cases k1;rw[M.bn _ _ h2]at k2;cases k2;exact p σ _ ⟨_,s1.write ei h1 (k4.append (.cons (s1.flat i1 hx.1) .nil))⟩
  simp_all
 simp_all
end
noncomputable def iJ (c:FT)(g:FS):Nat->Env->Option Res
 |0,_=>none
 |n+1,ρ=>match c ρ with
  |some true=>match g ρ with
   |some (.nx ρ')=>iJ c g n ρ'
   |some (.ct ρ')=>iJ c g n ρ'
   |some (.bk ρ')=>some (.nx ρ')
   |r=>r
  |some false=>some (.nx ρ)
  |none=>none
theorem EV (q:pb K (iJ c g n) E σ H):G1 (Dh K c) (pb K g) E σ H:=by
 obtain⟨B0,H0,ρ,r,s,e,p⟩:=q;refine⟨λm σ H=>∃ρ,xZ K B0 H0 H σ ρ/\iJ c g m ρ=some r,⟨n,ρ,s,e⟩,?_⟩;rintro m σ H ⟨ρ,⟨N,s⟩,e⟩;cases m with
 |zero=>cases e
 |succ m=>
  unfold iJ at e;cases M:c ρ with
  |none=>rw[M]at e;cases e
  |some b=>
   rw[M]at e;refine⟨N,ρ,b,s.ext.nh,s.rep,M,λU h1=>?_⟩;cases b with
   |false=>cases e;exact p σ U (.grown s h1)
   |true=>
    refine⟨λσ H=>∃ρ,xZ K B0 H0 H σ ρ/\iJ c g m ρ=some r,λG H' w=>⟨m,Nat.lt_succ_self m,w⟩,?_⟩;cases O:g ρ with
    |none=>rw[O]at e;cases e
    |some T=>
     rw[O]at e;refine⟨B0,H0,ρ,T,.grown s h1,O,?_⟩;cases T with
     |nx ρ'=>exact λG H' s'=>⟨ρ',s',e⟩
     |ct ρ'=>exact λG H' s'=>⟨ρ',s',e⟩
     |bk ρ'=>cases e;exact λG H' s'=>p _ H' s'
     |rt d b=>cases e;exact p
def pq (K:Frag)(J:It)(B:Hp)(ds:LD):Prop:=∀(i:Nat)(H:Hp),bc B H ->
 (∀d,ds[i]? = some d->J.go i H/\∀x H',J.yld i H x H'->∃N,Ext B N H H'/\Is K N x d)/\(ds.length<=i->J.stop i H)
def VX (K:Frag)(f:FA):TI:=λσ H R=>∃(B:Hp)(ρ:Env)(ds:LD),bc B H/\gy K B σ ρ/\f ρ=some ds/\∀(J:It)(H' N:Hp),Ext B N H H'->pq K J N ds->R J H'
abbrev FG:=D->Env->Option Env
def KH (K:Frag)(tg:FG)(g:TG):Prop:=∀(B0 H0 N H:Hp)(σ:St)(ρ ρ':Env)(v:V)(d:D)(Q:St->Hp->Prop),eN K B0 H0 N H σ ρ->Is K (gg N (own σ ρ)) v d->tg d ρ=some ρ' ->
 (∀G H',xZ K B0 H0 H' G ρ'->Q G H')->g v σ H Q
@[simp] noncomputable def da (i:Nat):FG:=λd ρ=>some (ρ.set i (some (d,false)))
theorem eD:KH K (da i) (lm i):=by
 intro B0 H0 N H σ ρ ρ' v d Q s h e k;cases e
 exact k _ H ⟨N,s.bind h⟩
noncomputable def jx (tg:FG)(g:FS):LD->Env->Option Res
 |[],ρ=>some (.nx ρ)
 |d::ds,ρ=>(tg d ρ).bind λG=>match g G with
  |some (.nx ρ')=>jx tg g ds ρ'
  |some (.ct ρ')=>jx tg g ds ρ'
  |some (.bk ρ')=>some (.nx ρ')
  |r=>r
@[simp] theorem Ri (tg:FG)(g:FS)(ρ:Env):jx tg g [] ρ=some (.nx ρ):=by rw[jx]
@[simp] theorem Qg (tg:FG)(g:FS)(d:D)(ds:LD)(ρ:Env):jx tg g (d::ds) ρ=(tg d ρ).bind λG=>match g G with
  |some (.nx ρ')=>jx tg g ds ρ'
  |some (.ct ρ')=>jx tg g ds ρ'
  |some (.bk ρ')=>some (.nx ρ')
  |r=>r:=by rw[jx]
@[simp] def my (f:FA)(tg:FG)(g:FS):FS:=λρ=>(f (jV ρ)).bind λds=>jx tg g ds ρ
theorem zx (l:KH K tg t)(s1:eN K B0 H0 N H1 σ ρ)(c:bc N1 (gg N (own σ ρ)))(n:pq K J N1 ds)(e:jx tg g ds ρ=some r)(p:Rh K B0 H0 E r):
  ∃W:Nat->Nat->St->Hp->Prop,(∃m,W 0 m σ H1)/\∀i m σ H,W i m σ H->(J.stop i H/\E.nx σ H)\/(J.go i H/\∃N:St->Hp->Prop,(∀G H',N G H'->∃j,j<m/\W (i+1) j G H')/\∀x H',J.yld i H x H'->t x σ H' λT H2=>pb K g { E with nx:=N,ct:=N,bk:=E.nx } T H2):=by
 refine⟨λi m σ H=>∃(N:Hp)(ρ:Env),eN K B0 H0 N H σ ρ/\bc N1 (gg N (own σ ρ))/\m=ds.length - i/\i<=ds.length/\jx tg g (ds.drop i) ρ=some r,⟨ds.length,_,ρ,s1,c,rfl,uN _,e⟩,?_⟩;clear e s1 c;rintro i m σ H ⟨N,ρ,s,c,rfl,hi,e⟩;have hs:bc N1 H:=c.trans (bW.trans s.ext.nh);obtain⟨w,A⟩:=n i H hs;by_cases M:i<ds.length
 .obtain⟨go,B⟩:=w ds[i] (by simp[M]);rw[List.drop_eq_getElem_cons M]at e;obtain⟨U,C,e⟩:=oX e;refine .inr ⟨go,λG H'=>∃(N:Hp)(ρ:Env),eN K B0 H0 N H' G ρ/\bc N1 (gg N (own G ρ))/\jx tg g (ds.drop (i+1)) ρ=some r,λG H' ⟨N',ρ',s',D,F⟩=>⟨_,M9,N',ρ',s',D,rfl,M,F⟩,λx H' y=>?_⟩;obtain⟨N2,O,i2⟩:=B x H' y;have I:Ext (gg N (own σ ρ)) (join (gg N (own σ ρ)) N2) H H':=by
   refine⟨O.hh,gl,λa o e=>?_,λa o e=>?_⟩
   .cases q:gg N (own σ ρ) a with
    |some u=>rw[gl _ _ q]at e;cases e;exact O.hh _ _ (s.ext.nh _ _ (bW _ _ q))
    |none=>rw[eO q]at e;exact O.nh _ _ e
   .cases q:gg N (own σ ρ) a with
    |some u=>rw[gl _ _ q]at e;simp_all
    |none=>
     rw[eO q]at e;rcases O.new a o e with z|z
     .rw[c _ _ z]at q;cases q
     .exact .inr z
  obtain⟨s2,c2⟩:=s.growH I;have c3:bc N2 (join (gg N (own σ ρ)) N2):=λa o e=>by
   rcases O.new a o e with z|z
   .exact gl _ _ (c _ _ z)
   .rw[eO ((bW.trans s.ext.nh).free z)];exact e
  have L:=i2.mono (c3.trans c2);have P :=(O.bn.trans c3).trans c2;refine l _ _ _ _ _ _ _ _ _ _ s2.rebase L C λT H2 ⟨Q,R⟩=>?_;cases h:g U with
  |none=>rw[h]at e;cases e
  |some k=>
   rw[h]at e;refine⟨_,_,U,k,⟨Q,R⟩,h,?_⟩;have back:∀ {G:St}{H':Hp}{ρ':Env}{N':Hp},eN K _ _ N' H' G ρ'->eN K B0 H0 N' H' G ρ'/\bc N1 (gg N' (own G ρ')):=λt=>⟨s2.unbase t,P.trans t.based⟩;cases k with
   |nx ρ'=>exact λG H' ⟨N',t⟩=>⟨N',ρ',(back t).1,(back t).2,e⟩
   |ct ρ'=>exact λG H' ⟨N',t⟩=>⟨N',ρ',(back t).1,(back t).2,e⟩
   |bk ρ'=>cases e;exact λG H' ⟨N',t⟩=>p G H' ⟨N',(back t).1⟩
   |rt d b=>
    cases e
    intro v H' N' f S V;have y:=s2.rebase.ext;have h0:bc H0 (gg H' (λ_=>False)):=λa o e=>by rw[dD (λz=>z)];exact f.hh _ _ (by
     rw[dD λz=>?_];exact s2.ext.hh _ _ e;obtain⟨_,_,q⟩:=s2.owned z;lia)
    have hb:bc H0 (gg _ (own σ ρ)):=λa o e=>by
     rw[dD λz=>?_];exact s2.ext.hh _ _ e;obtain⟨_,_,q⟩:=s2.owned z;lia
    have bb:bc B0 (gg _ (own σ ρ)):=λa o e=>by
     rw[dD λz=>?_];exact s2.ext.bn _ _ e;obtain⟨_,_,q⟩:=s2.owned z;rw[s2.bh _ _ e]at q;cases q
    refine p v H' N' ⟨hb.trans f.hh,bb.trans f.bn,f.nh,λa o e=>?_⟩ S λz=>(V z).back hb;rcases f.new a o e with z|z
    .exact s2.ext.new a o (bW _ _ z)
    .exact .inr (hb.free z)
 .have ei:i=ds.length:=M9
  subst ei;rw[List.drop_eq_nil_of_le (vT _)]at e;cases e
  exact .inl ⟨A (vT _),p σ H ⟨N,s⟩⟩
theorem KI (G:KH K tg t)(q:pb K (my f tg g) E σ H):NN (VX K f) t (pb K g) E σ H:=by
 obtain⟨B0,H0,ρ,r,⟨N,s⟩,e,p⟩:=q;obtain⟨ds,M,e⟩:=oX e;refine⟨gg N _,jV ρ,ds,bW.trans s.ext.nh,s.repH,M,λJ U N1 O T=>?_⟩;obtain⟨s1,c⟩:=s.growH O;exact zx G s1 c T e p
def Tn (K:Frag)(f:FA):TI:=λσ H R=>∃(B:Hp)(ρ:Env)(ds:LD),bc B H/\gy K B σ ρ/\f ρ=some ds/\∀(J:It)(H' N:Hp),Ext B N H H'->(∀G,pq K J G ds)->R J H'
@[simp] def m6 (f:FA)(tg:FG)(g:FS):FS:=λρ=>(f ρ).bind λds=>jx tg g ds ρ
theorem Ha (G:KH K tg t)(q:pb K (m6 f tg g) E σ H):NN (Tn K f) t (pb K g) E σ H:=by
 obtain⟨B0,H0,ρ,r,⟨N,s⟩,e,p⟩:=q;obtain⟨ds,M,e⟩:=oX e;refine⟨N,ρ,ds,s.ext.nh,s.rep,M,λJ U N1 O T=>?_⟩;exact zx G (s.grow O) (bc.refl _) (T _) e p
end DL
namespace DL
open PySem PySem.Spec PyProof.Rows L2
abbrev JE (X:Cx)(e:Expr)(f:FE):Prop:=PE X e (tD X.K f)
abbrev JT (X:Cx)(e:Expr)(f:FT):Prop:=PT X e (Dh X.K f)
abbrev JW (X:Cx)(e:Expr)(f:FT):Prop:=PW X e (Dh X.K f)
abbrev JA (X:Cx)(es:QD)(f:FA):Prop:=PA X es (Qf X.K f)
abbrev JS (X:Cx)(st:Stmt)(g:FS):Prop:=PS X st (pb X.K g)
abbrev wm (X:Cx)(st:List Stmt)(g:FS):Prop:=uR X st (pb X.K g)
abbrev JI (X:Cx)(tg G:Expr)(f:FA):Prop:=PI X tg G (VX X.K f)
def Om (M:Model)(A:Around)(O:QD)(T:Expr)(env:PySem.Env)(U:Value)(E:QV)(P:Shared->Prop):Shared->Prop :=
 wpAny M A (forIn O true λc r=>if r=true then do let ok <-isTrue c env (eval c env);pure (ForInStep.yield ok)else pure (ForInStep.yield r))
  (λok G=>if ok=true then wpAny M A (eval T env) (λx=>wpAny M A (call (.builtin "list.append") [U,x]) (λ_=>P) E) E G else P G) E
theorem yc {E:QV}(g:∀x s,¬E x s)(I:Nat->Shared->Prop)
  (T:∀n s,I n s->wpAny (model prog w) A (pyNext it) (λr G=>match r with
   |none=>R (.ok .next) G
   |some v=>wpAny (model prog w) A (letOwnedTupleGo JX it v) (λ_=>wpAny (model prog w) A (assign JX env v) (λ_=>Om (model prog w) A B2 B3 env My E λs=>∃m,m<n/\I m s) E) E G) E s)
  (n:Nat) (h:I n s):codeAny (model prog w) A (.compLoop (.ListComp B3 [⟨JX,gk,B2,0⟩] scope pos) 0 it My env) R s:=by
 refine codeAny_loop rfl I (λn s i=>?_) n h;refine wpAny_noted (wpAny_mono (E:=E) ?_ (λ_ _ q=>q) λ_ _ z=>(g _ _ z).elim);rw[compTurn_list];refine wX (wpAny_standAt (wX (c7 (T n s i) λr G M=>?_)));cases r with
 |none=>exact wY M
 |some v=>
  refine wX (c7 M λ_ G M=>wX (c7 M λ_ c U=>wX (c7 U λok d O=>?_)));cases ok with
  |false=>exact wY ⟨rfl,O⟩
  |true=>exact wX (wX (c7 O λx e a=>wX (c7 a λ_ f b=>wY (wY ⟨rfl,b⟩))))
theorem Ext.upd (x:Ext B N H H')(h:H a=none)(G:N a=none):Ext B N H (upd H' a o) :=
 ⟨λb u e=>by rw[aK (λz=>by subst z;rw[h]at e;cases e)];exact x.hh _ _ e,x.bn,λb u e=>by rw[aK (λz=>by subst z;rw[G]at e;cases e)];exact x.nh _ _ e,x.new⟩
noncomputable abbrev jy (X:Cx)(N':LS)(scope:Scope)(cl:List (Str×Addr))(C:Addr)(G:Shared)(M:Hp)(fp:List Addr):Cx :=
 { X with N:=N',s₀:=G,H₀:=M,env:=compEnvC scope cl C X.env,outer:=X.stack,stack:=X.stack,ex:=fp,fn:=λ_=>false,pn:=[],xe:=λ_ _=>False }
inductive oW (X:Cx)(N':List Str)(scope:Scope)(cl:List (Str×Addr)):Nat->List Nat->Prop where
 |nil {j:Nat}(h:N'.length=j):oW X N' scope cl j []
 |cons {j i:Nat}{r:List Nat}{x:Str}(h1:N'[j]? = some x) (h2:X.N[i]? = some x) (h3:X.env.kindOf x=some .cell\/X.env.kindOf x=some .free)
   (h4:(relabel scope X.env).names.lookup x=some .cell\/(relabel scope X.env).names.lookup x=some .free) (h5:cl.lookup x=X.env.cells.lookup x) (t:oW X N' scope cl (j+1) r):oW X N' scope cl j (i::r)
theorem oW.len:∀ {j:Nat}{cap:LN},oW X N' scope cl j cap->N'.length=j+cap.length
 |_,_,.nil h=>by rw[h];rfl
 |j,i::r,.cons _ _ _ _ _ t=>by rw[t.len,vE];lia
theorem oW.get:∀ {j:Nat}{cap:LN}{k i:Nat},oW X N' scope cl j cap->cap[k]? = some i->∃x,N'[j+k]? = some x/\X.N[i]? = some x/\(X.env.kindOf x=some .cell\/X.env.kindOf x=some .free) /\
  ((relabel scope X.env).names.lookup x=some .cell\/(relabel scope X.env).names.lookup x=some .free)/\cl.lookup x=X.env.cells.lookup x
 |_,_,_,_,.nil _,e=>by simp at e
 |j,_,0,_,.cons h1 h2 h3 h4 h5 _,e=>by simp at e;subst e;exact⟨_,h1,h2,h3,h4,h5⟩
 |j,_,k+1,i,.cons _ _ _ _ _ t,e=>by
  obtain⟨x,q,r⟩:=t.get   (by simpa using e);exact⟨x,M9,r⟩
structure CompSc (X:Cx)(scope:Scope)(cl:List (Str×Addr)):Prop where
 clos:closureFor scope X.env=pure cl
 nocell:∀y∈scope.names,y.2≠.cell
 kind:scope.kind=.function
 names:∀y∈scope.names,y.2=.local->scope.names.lookup y.1=some .local
 sub:∀x c,cl.lookup x=some c->X.env.cells.lookup x=some c
 has:∀x,((relabel scope X.env).names.lookup x=some .cell\/(relabel scope X.env).names.lookup x=some .free)->∃c,cl.lookup x=some c
noncomputable def g9:List (Str×NameKind)->List (Str×Addr)->List (Str×Addr)->List (Str×Addr)
 |[],_,cs=>cs
 | (n,k)::r,cells,cs=>g9 r cells (if k == .free then (match cells.lookup n with|some c=>(n,c)::cs|none=>cs)else cs)
theorem wn:∀(names:List (Str×NameKind))(cs:List (Str×Addr)),(∀y∈names,y.2=.free->(env.cells.lookup y.1).isSome=true) ->
    (do let mut cs:=cs
        for (name,kind)in names do
          if kind == .free then cs:=(name,<-cellOf env name)::cs
        return cs:Sem (List (Str×Addr)))=pure (g9 names env.cells cs):=by
  intro names;induction names with
  |nil=>intro cs _;rfl
  |cons y r ih=>
    intro cs h;obtain⟨n,k⟩:=y;have G:=λcs=>ih cs λy hy=>h y (mZ _ hy);by_cases hk:k=.free
    . subst hk;have hc:=h _ mX rfl;cases q:env.cells.lookup n with
      |none=>rw[q]at hc;cases hc
      |some c=>
        grind[g9,cellOf]
    . grind[g9]
theorem nN:∀(names:List (Str×NameKind))(cs:List (Str×Addr)),(∀y d,cs.lookup y=some d->cells.lookup y=some d)->(g9 names cells cs).lookup x=some c->cells.lookup x=some c
 |[],cs,h,e=>h x c e
 | (n,k)::r,cs,h,e=>by
  refine nN r _ (λy d q=>?_) e;split at q
  .split at q
   .rename_i M G;rw[lookup_cons]at q;split at q
    .rename_i hy;cases q
     rw[eq_of_beq hy];exact G
    .exact h y d q
   .exact h y d q
  .exact h y d q
theorem wo:∀(names:List (Str×NameKind))(cs:List (Str×Addr)),(cs.lookup x).isSome=true->((g9 names cells cs).lookup x).isSome=true
 |[],cs,h=>h
 | (n,k)::r,cs,h=>by
  refine wo r _ ?_;split
  .split
   .rw[lookup_cons];split
    .rfl
    .exact h
   .exact h
  .exact h
theorem nO:∀(names:List (Str×NameKind))(cs:List (Str×Addr)),(x,NameKind.free)∈names->(cells.lookup x).isSome=true->((g9 names cells cs).lookup x).isSome=true
 | (n,k)::r,cs,hm,hc=>by
  rcases vP hm with e|e
  .cases e
   refine wo r _ ?_;cases q:cells.lookup x with
   |none=>rw[q]at hc;cases hc
   |some c=>simp
  .exact nO r _ e hc
theorem iK {α:Type}{x:Str}{k:α}:∀ {l:List (Str×α)},l.lookup x=some k->(x,k)∈l
 | (n,j)::r,h=>by
  rw[lookup_cons]at h;split at h
  .simp_all
  .exact mZ _ (iK h)
theorem Oo {X:Cx}{scope:Scope}(h1:∀y∈scope.names,y.2≠.cell)(h2:scope.kind=.function)(h3:∀y∈scope.names,y.2=.local->scope.names.lookup y.1=some .local)(G:(scope.names.all λy=>!(y.2 == NameKind.free) || (X.env.cells.lookup y.1).isSome)=true):
  CompSc X scope (g9 scope.names X.env.cells []):=by
 have h4:∀y∈scope.names,y.2=.free->(X.env.cells.lookup y.1).isSome=true:=λy hy e=>by
  grind
 have frees:∀x,((relabel scope X.env).names.lookup x=some .cell\/(relabel scope X.env).names.lookup x=some .free)->(x,NameKind.free)∈scope.names:=λx h=>by
  have:∃k,(x,k)∈(relabel scope X.env).names/\(k=.cell\/k=.free):=by
   grind[iK]
  obtain⟨k,hm,hk⟩:=this;obtain⟨⟨n,j⟩,hj,e⟩:=vO hm;grind
 exact⟨wn _ [] h4,h1,h2,h3,λx c e=>nN _ [] (λy d q=>by cases q) e,λx h=>by
  have:=nO  _ [] (frees x h) (h4 _ (frees x h) rfl);exact uU this⟩
theorem nQ {scope:Scope}{cells:List (Str×Addr)}{x:Str}(h:(x,NameKind.free)∈scope.names)(hc:(cells.lookup x).isSome=true):(g9 scope.names cells []).lookup x=cells.lookup x:=by
 obtain⟨c,e⟩:=uU (nO  _ [] h hc);grind[nN]
noncomputable def zy (nT:Nat)(cap:LN)(σ:St):St:=List.replicate nT none++cap.map λi=>(σ[i]?).join
noncomputable def cG (nT:Nat)(cap:LN)(ρ:Env):Env:=List.replicate nT none++cap.map λi=>match ρ[i]? with|some (some (d,_))=>some (d,false)|_=>none
theorem ye {α:Type}{nT:Nat}{cap:LN}{f:Nat->Option α}{j:Nat}{v:α}(h:(List.replicate nT none++cap.map f)[j]? = some (some v)):∃k i,j=nT+k/\cap[k]? = some i/\f i=some v:=by
 by_cases hj:j<nT
 .rw[getElem?_append_left (by simpa using hj),List.getElem?_replicate,if_pos hj]at h;cases h
 .rw[getElem?_append_right (by simpa using Nat.not_lt.mp hj),length_replicate,vA]at h;obtain⟨i,h1,h2⟩:=oY h;exact⟨j - nT,i,M9,h1,h2⟩
theorem KJ {α:Type}{nT:Nat}{cap:LN}{f:Nat->Option α}{k i:Nat}{v:α}(h1:cap[k]? = some i)(h2:f i=some v):(List.replicate nT none++cap.map f)[nT+k]? = some (some v):=by
 rw[getElem?_append_right N9,length_replicate,vA,Nat.add_sub_cancel_left,h1];simp[h2]
theorem gy.caps {K:Frag}{B:Hp}{σ:St}{ρ:Env}{nT:Nat}{cap:LN}(h:gy K B σ ρ):gy K B (zy nT cap σ) (cG nT cap ρ):=⟨h.tb,λj d b q=>by
 obtain⟨k,i,rfl,h1,h2⟩:=ye q;split at h2
 .rename_i d' b' e;cases h2
  obtain⟨v,g1,G⟩:=h.at' i _ _ e;exact⟨v,KJ h1 (by rw[g1];rfl),G⟩
 simp_all⟩
noncomputable def iq (tg:FG)(c:FT)(fe:FE)(ρ:Env):LD->Option LD
 |[]=>some []
 |d::r=>(tg d ρ).bind λG=>(c G).bind λb=>if b=true then (fe G).bind λx=>(iq tg c fe ρ r).map (x.1 :: ·)else iq tg c fe ρ r
@[simp] theorem Qh (tg:FG)(c:FT)(fe:FE)(ρ:Env):iq tg c fe ρ []=some []:=by rw[iq]
@[simp] theorem BP (tg:FG)(c:FT)(fe:FE)(ρ:Env)(d:D)(r:LD):iq tg c fe ρ (d::r)=(tg d ρ).bind λG=>(c G).bind λb=>if b=true then (fe G).bind λx=>(iq tg c fe ρ r).map (x.1 :: ·)else iq tg c fe ρ r:=by rw[iq]
@[simp] def bM (fi:FA)(nT:Nat)(cap:LN)(tg:FG)(c:FT)(fe:FE):FE:=λρ=>(fi ρ).bind λitems=>if items.length<=sizeLine then (iq tg c fe (cG nT cap ρ) items).map λds=>(.lst ds,true)else none
def MG (K:Frag)(n:Nat)(tg:FG)(g:TG):Prop:=∀(B H:Hp)(σ:St)(ρ M:Env)(v:V)(d:D)(Q:St->Hp->Prop),(∀i,i<n->ρ[i]? = some none)->gy K B σ ρ->bc B H->Is K B v d->tg d ρ=some M ->
 ρ.length=σ.length->(∀G,gy K B G M->(∀O,gy K O σ ρ->gy K O G ρ)->ρ.length=G.length->Q G H)->g v σ H Q
theorem z4 {K:Frag}{n i:Nat}(hi:i<n):MG K n (da i) (lm i):=by
 intro B H σ ρ O v d Q cl rep s h e hl k;cases e
 have M:i<σ.length:=by
  grind
 refine k _ ⟨rep.tb,λj e b q=>?_⟩ ?_ (by simpa using hl)
 .rcases cm q with⟨rfl,p⟩|⟨ne,p⟩
  .simp_all
  .obtain⟨w,h1,h2⟩:=rep.at' j e b p;simp_all
 .intro T G;refine⟨G.tb,λj e b q=>?_⟩;obtain⟨w,h1,h2⟩:=G.at' j e b q;have ne:i≠j:=λz=>by subst z;rw[cl i hi]at q;cases q
  exact⟨w,by simp_all,h2⟩
def JC (X:Cx)(G:QD)(c:FT):Prop:=∀(ag:AO)(s:Shared)(σ:St)(H:Hp)(Q:Bool->Hp->Prop),Inv X ag σ H s->Dh X.K c σ H Q ->
 wq X (forIn G true λc r=>if r=true then do let ok <-isTrue c X.env (eval c X.env);pure (ForInStep.yield ok)else pure (ForInStep.yield r)) (TP X ag σ Q) X.xe s
@[simp] noncomputable def gm:FT:=λ_=>some true
theorem fK:JC X [] gm:=by
 intro ag s σ H Q I h;obtain⟨B,ρ,c,G,rep,e,q⟩:=h;cases e
 exact wpAny_tests_nil ⟨H,I,q H (.refl H)⟩
theorem dE (h:JT X e f):JC X [e] f:=λag s σ H Q I q=>wpAny_tests_one (h _ s σ H Q I q)
inductive CI (Y:Cx)(tn:Nat->Heap->Prop)(fp:List Addr)(N1 H2:Hp)(κ:Env)(a:Addr)(l:List D->Option (List D))(items ds:List D)(s:Shared):Nat->Prop
 |mk (i:Nat) (N:Hp) (vs:List V) (es r:List D) (σ:St) (H:Hp) (I:Inv Y [] σ H s) (ti:tn i s.heap) (hn:∀b∈fp,H b=none) (hi:i<=items.length) (rp:gy Y.K N1 σ κ) (hl:κ.length=σ.length)
   (x:Ext N1 N H2 H) (n0:N a=none) (h0:H a=some (.lst vs)) (vl:vs.length<=i) (iv:IsL Y.K N vs es) (er:l (items.drop i)=some r) (ed:es++r=ds):CI Y tn fp N1 H2 κ a l items ds s (items.length - i)
theorem Ext.both (x:Ext N1 N H2 H)(y:Ext N1 N' H H'):Ext N (join N N') H H'/\bc N' (join N N'):=by
 refine⟨⟨y.hh,gl,λa o e=>?_,λa o e=>?_⟩,λa o e=>?_⟩
 .cases z:N a with
  |some u'=>rw[gl _ _ z]at e;cases e;exact y.hh _ _ (x.nh _ _ z)
  |none=>rw[eO z]at e;exact y.nh _ _ e
 .cases z:N a with
  |some u'=>rw[gl _ _ z]at e;simp_all
  |none=>
   rw[eO z]at e;exact(y.new a o e).elim (λG=>by rw[x.bn _ _ G]at z;cases z) .inr
 .exact(y.new a o e).elim (λz=>gl _ _ (x.bn _ _ z)) λz=>by rw[eO (x.nh.free z)];exact e
theorem Ext.off (x:Ext B N H H')(h:B a=none)(h':H a=some o):N a=none:=by
 cases z:N a with
 |none=>rfl
 |some u=>
  rcases x.new _ _ z with z|z
  .rw[h]at z;cases z
  simp_all
theorem EW {Y:Cx}(O:Y.calm=true)(hE:∀x s,¬Y.xe x s)(hg:PG Y tg g)(Su:MG Y.K nT uO g)(hc:JC Y B2 fc)(he:JE Y B3 fe)(T:Turn Y.prog Y.w Y.K tg J fp it tn)(Sv:∀i,i<nT->κ[i]? = some none)
  (J1:pq Y.K J N1 items) (hsz:items.length<=sizeLine) (hD:H2 a=none) (Z:∀H',(∀b∈fp,H' b=none)->∀b∈fp,mO Y [] H' b)
  (hR:∀D M H' N vs,Inv Y [] M H' D->Ext N1 N H2 H'->N a=none->H' a=some (.lst vs)->IsL Y.K N vs ds->R (.ok .next) D) (h:CI Y tn fp N1 H2 κ a (iq uO fc fe κ) items ds s items.length):
  codeAny (model Y.prog Y.w) Y.A (.compLoop (.ListComp B3 [⟨tg,gk,B2,0⟩] scope pos) 0 (.ref it) (.ref a) Y.env) R s:=by
 refine yc hE (λn s=>CI Y tn fp N1 H2 κ a (iq uO fc fe κ) items ds s n) (λn s' h=>?_) _ h;obtain⟨i,N,vs,es,r,M,H',I',ti,hn,hi,rp,lW,x,Vc,T2,Nk,Sw,er,Q⟩:=h;have sH:bc N1 H':=x.bn.trans x.nh;by_cases B4:i<items.length
 .obtain⟨go,yl⟩:=(J1 i H' sH).1 items[i] (by simp[B4]);refine c7 (T.item Y rfl rfl rfl O i [] s' M H' Y.xe I' (Z _ hn) ti go) λq D ⟨u,eu,hq⟩=>?_;subst eu;refine c7 hq λ_ s5 ⟨xv,E,I5,rx,y5,t5,UX⟩=>?_;obtain⟨f,x5,i5⟩:=yl xv E y5;obtain⟨x6,c5⟩:=x.both x5;have W3:(join N f) a=none:=x6.off Vc T2;have S:bc (join N f) E:=x6.nh;rw[List.drop_eq_getElem_cons B4]at er;unfold iq at er;obtain⟨j,e1,er⟩:=oX er;obtain⟨b,e2,er⟩:=oX er;have gz:∀(F:Shared)(U:St)(k H:Hp)(I:LV)(V W:LD),Inv Y (pe fp s5.heap) U k F->gy Y.K N1 U κ->κ.length=U.length->Ext N1 H H2 k->H a=none->k a=some (.lst I) ->
    I.length<=i+1->IsL Y.K H I V->iq uO fc fe κ (items.drop (i+1))=some W->V++W=ds->∃m,m<items.length - i/\CI Y tn fp N1 H2 κ a (iq uO fc fe κ) items ds F m:=λF U k H I V W l YT l9 x9 n9 h9 v9 i9 YU YV=>
   ⟨_,M9,i+1,H,I,V,W,U,k,l.pins_of λp hp=>by simp at hp,T.keep _ _ _ t5 λb hb o e=>(l.pin (b,o) (mY _ (jU hb e))).1,λb hb=>by
    obtain⟨o,e,d⟩:=T.obj _ _ t5 b hb;exact(l.pin (b,o) (mY _ (jU hb e))).2.1,B4,YT,l9,x9,n9,h9,v9,i9,YU,YV⟩
  refine c7 (hg (pe fp s5.heap) s5 M E xv u (λG L=>L=E/\gy Y.K (join N f) G j/\gy Y.K N1 G κ/\κ.length=G.length) (I5.pinned (Z _ UX) (T.obj _ _ t5)) rx
   (Su (join N f) E M κ j xv items[i] _ Sv (rp.mono (x.bn.trans gl)) S (i5.mono c5) e1 lW λσ1 r1 r2 l1=>⟨rfl,r1,r2 N1 rp,l1⟩)) λ_ s6 ⟨G,L,I6,eH,W4,W5,l6⟩=>?_
  subst eH;have Vd:L a=some (.lst vs):=x5.hh _ _ T2;refine c7 (hc _ s6 G L (λc t=>c=b/\bc L t) I6 ⟨join N f,j,b,S,W4,e2,λt z=>⟨rfl,z⟩⟩) λok s7 ⟨t,I7,eb,z⟩=>?_;subst eb;have x7:Ext N1 (join N f) H2 t:=(x.trans x6).trans (.grow S z);cases ok with
  |false=>
   exact gz s7 G t (join N f) vs es r I7 W5 l6 x7 W3 (z _ _ Vd) (le_succ_of_le Nk) (Sw.mono gl) er Q
  |true=>
   rw[if_pos rfl]at er |-;obtain⟨y,e3,er⟩:=oX er;obtain⟨r',e4,er⟩:=oY er;subst er;refine c7 (he _ s7 G t (λv P=>∃B,Ext (join N f) B t P/\Is Y.K B v y.1) I7 ⟨join N f,j,y.1,y.2,S.trans z,W4,e3,λv P B C i8 _=>⟨B,C,i8⟩⟩) λw8 s8 ⟨X,P,I8,r8,B,C,i8⟩=>?_;refine c7 (wg _ s8 G P (.ref a) [X] (.ref a) [w8] (λ_ k=>k=upd P a (.lst (vs++[X]))) I8 rfl (.cons r8 .nil) ⟨_,vs,X,rfl,rfl,C.hh _ _ (z _ _ Vd),M9,rfl⟩) λ_ F ⟨_,k,l,_,e9⟩=>?_;subst e9;have W6:=C.off W3 (z _ _ Vd);exact gz F G _ B (vs++[X]) (es++[y.1]) r' l W5 l6 ((x7.trans C).upd hD W6) W6 a8 (by simp_all) ((Sw.mono (gl.trans C.bn)).append (.cons i8 .nil)) e4 (by rw[append_assoc];exact Q)
 .obtain rfl:i=items.length:=M9
  rw[List.drop_eq_nil_of_le (vT _)]at er;cases er
  rw[uQ]at Q;subst Q;refine c7 (T.done Y rfl rfl rfl O items.length [] s' M H' Y.xe I' (Z _ hn) ti ((J1 _ H' sH).2 (vT _))) λq D ⟨hq,l⟩=>?_;subst hq;exact hR D M H' N vs l x Vc T2 Sw
theorem rz {X:Cx}(Sy:X.calm=true){tg gk R:Expr}{V:QD}{scope:Scope}{I:Pos}{cl:List (Str×Addr)}{N':LS}{nT:Nat}{cap:LN}{uO:FG}{g:TG}{fc:FT}{fe:FE}
  (S:CompSc X scope cl) (cp:oW X N' scope cl nT cap)
  (hg:∀C s H fp,PG (jy X N' scope cl C s H fp) tg g) (Su:MG X.K nT uO g) (hc:∀C s H fp,JC (jy X N' scope cl C s H fp) V fc) (he:∀C s H fp,JE (jy X N' scope cl C s H fp) R fe)
  {ag:AO}{σ:St}{H2:Hp}{s2:Shared}{it:Addr}{fp:List Addr}{tn:Nat->Heap->Prop}{J:It}{N1:Hp}{ρ:Env}{items ds:LD}{E:QV}
  (d:Inv X ag σ H2 s2) (T:Turn X.prog X.w X.K tg J fp it tn) (W:tn 0 s2.heap) (f2:∀b∈fp,mO X ag H2 b)
  (rep:gy X.K N1 σ ρ) (Z:bc N1 H2) (J1:pq X.K J N1 items) (hsz:items.length<=sizeLine) (ec:iq uO fc fe (cG nT cap ρ) items=some ds) {RR:Value->Addr->Result->Shared->Prop}
  (YW:∀(Dd C:Addr)(s':Shared)(H' N:Hp)(vs:LV)(m:SV),H2 Dd=none->Inv X ag σ H' s'->s'.heap.Ns C m->mO X ag H' C->Ext N1 N H2 H'->N Dd=some (.lst vs)->IsL X.K N vs ds->RR (.ref Dd) C (.ok .next) s'):
  wq X (newList []) (λMy U=>wq X (newFunctionEnv scope X.env.globals cl [] X.env.qual none .none (some X.env)) (λSz L=>
   codeAny (model X.prog X.w) X.A (.compStart (.ListComp R [⟨tg,gk,V,0⟩] scope I) 0 (.ref it) My { Sz with scope:=relabel scope X.env }) (RR My Sz.locals) L) E U) E s2:=by
 refine wpAny_newObj_type (wpAny_newFunctionEnv S.nocell (by intro y hy;simp at hy) (λf M O=>?_) S.kind);dsimp only at M O |-;have D:H2 s2.heap.objs.size=none:=d.fresh;have n :=d.lnew (t':=s2.toks) (ys:=[]) (its:=[]) .nil (uN _);generalize P:s2.heap.push _=t at M O n |-;have hC:t.objs.size=s2.heap.objs.size+1:=by rw[<-P,Heap.size_push]
 have Q:∀b o,s2.heap.get? b=some o->t.get? b=some o:=λb o e=>P ▸ vZ _ e;have G:∀b o,t.get? b=some o->f.get? b=some o:=λb o e=>O.extBut b o (vS (vX e)) (vZ _ e);have YX:∀b o,t.get? b=some o->b≠t.objs.size:=λb o e=>vS (vX e);have W7:∀b∈fp,∃o,s2.heap.get? b=some o:=λb hb=>let ⟨o,e,_⟩:=T.obj 0 s2.heap W b hb;⟨o,e⟩;have YY:∀b∈fp,b≠s2.heap.objs.size:=λb hb=>let ⟨o,e⟩:=W7 b hb;vS (vX e);have W9:∀b∈fp,b≠t.objs.size:=λb hb=>let ⟨o,e⟩:=W7 b hb;YX b o (Q b o e);have YZ :=n.hok.fresh (vT _);let Y:Cx:=jy X N' scope cl t.objs.size { s2 with heap:=t } (upd H2 s2.heap.objs.size (.lst [])) fp;have ok:Y.Ok:=by
  refine⟨d.ok.mod,?_,d.ok.glob,d.ok.blt,vT _,λx y c e1 e2=>d.ok.inj x y c (S.sub x c e1) (S.sub y c e2),λx h=>S.has x h,λx c h=>absurd h uX,d.ok.hd,d.ok.frames,.inl rfl,λb hb=>⟨W9 b hb,λx c e=>(f2 b hb).2.2.2.2.1 x c (S.sub x c e)⟩,λb o e=>?_,?_,λb o e hb=>?_,λb hb hz=>?_,n.stack,λb hb=>n.stkFree b hb⟩
  .show(relabel scope X.env).kind=.function;exact S.kind
  .exact n.bs b o e
  .exact vR n.ok.bsz n.sz
  .have h1:=(f2 b hb).2.2.2.1;rcases h1 with z|z
   .exact d.ok.noex b o e z
   .exact absurd (vQ (vX e) (vR d.ok.bsz z)) (Nat.lt_irrefl _)
  .rcases vP (d.stkSub b hz)with z|z
   .exact(f2 b hb).2.1 z
   .exact(f2 b hb).2.2.1 z
 have I4:Inv Y [] (zy nT cap σ) (upd H2 s2.heap.objs.size (.lst [])) { s2 with heap:=f,toks:=s2.toks+([]:List (Str×Value)).length }:=by
  refine⟨ok,rfl,d.bare,Un.kept G,⟨_,M,λj x v e1 e2 e3=>?_⟩,λx c e=>?_,YZ,λx c e=>n.freeC x c (S.sub x c e),λp hp=>absurd (show p∈[]from hp) not_mem_nil,n.hok.kept G,?_⟩
  .obtain⟨k,i,rfl,h1,h2⟩:=ye e2;obtain⟨y,g1,g2,Za,g4,g5⟩:=cp.get h1;have WA:N'[nT+k]? = some x:=e1;rw[g1]at WA;cases WA;have Sr:σ[i]? = some (some v):=by
    cases q:σ[i]? with
    |none=>rw[q]at h2;cases h2
    |some z=>rw[q]at h2;have:z=some v:=h2;rw[this]
   obtain⟨m,_,hl⟩:=n.loc;obtain⟨u,r,l⟩:=hl i _ v g2 Sr (Za.elim (λz=>.inr (.inl z)) λz=>.inr (.inr z));refine⟨u,r,?_⟩;rcases l with⟨l,_⟩|⟨_,c,lc,ic⟩
   .simp_all
   .refine .inr ⟨g4,c,by show cl.lookup _=some c;simp_all,?_⟩;obtain⟨o,ho,hd⟩:=ic;exact⟨o,G _ _ ho,hd⟩
  .obtain⟨v,o,ho,hd⟩:=n.cell x c (S.sub x c e);exact⟨v,o,G _ _ ho,hd⟩
  .show(zy nT cap σ).length=N'.length;unfold zy;rw[cp.len];simp
 have B:∀U:Shared,U={ s2 with heap:=f,toks:=s2.toks+([]:List (Str×Value)).length }->codeAny (model Y.prog Y.w) Y.A (.compLoop (.ListComp R [⟨tg,gk,V,0⟩] scope I) 0 (.ref it) (.ref s2.heap.objs.size) Y.env) (RR (.ref s2.heap.objs.size) t.objs.size) U:=by
  rintro U rfl;refine EW (Y:=Y) Sy (λ_ _ z=>z) (hg _ _ _ _) Su (hc _ _ _ _) (he _ _ _ _) T (λi hi=>?_) J1 hsz D (λH' hn b hb=>⟨hn b hb,W9 b hb,ok.exfs b hb,.inl hb,λx c e=>(f2 b hb).2.2.2.2.1 x c (S.sub x c e),λp hp=>absurd (show p∈[]from hp) not_mem_nil⟩) (λs4 σ' H' N vs F x Vc T2 Sw=>?_)
   ⟨0,N1,[],[],ds,zy nT cap σ,_,I4,T.keep _ _ _ W λb hb o e=>G _ _ (Q _ _ e),λb hb=>?_,uN _,rep.caps,?_,(Ext.refl Z).upd D (Z.free D),Z.free D,a8,uN _,.nil,by simpa using ec,rfl⟩
  .simp_all[cG,getElem?_append_left]
  .obtain⟨m,hm,_⟩:=F.loc;have k:bc N (upd N s2.heap.objs.size (.lst vs)):=λa o e=>by grind[aK]
   refine YW s2.heap.objs.size t.objs.size s4 H' (upd N s2.heap.objs.size (.lst vs)) vs m D (d.call' (ch:=fp) F.os ((Un.laid Q (vT _) D).trans F.base) F.hok F.bare λb hb=>⟨(f2 b hb).2.2.2.1,(f2 b hb).2.1,(f2 b hb).2.2.2.2.1,(f2 b hb).2.2.2.2.2⟩) hm (d.fpOk (by rw[hC];exact le_succ _) F.free) ⟨x.hh,x.bn.trans k,λa o e=>?_,λa o e=>?_⟩ a8 (Sw.mono k)
   .by_cases z:a=s2.heap.objs.size
    .simp_all[a8]
    .rw[aK z]at e;exact x.nh _ _ e
   .by_cases z:a=s2.heap.objs.size
    .subst z;exact .inr D
    .rw[aK z]at e;exact x.new _ _ e
  .rw[aK (YY b hb)];exact(f2 b hb).1
  .unfold cG zy;simp
 exact codeAny_compStart_list (B _ rfl) (T.self _ 0 _ _ _ (T.keep _ _ _ W λb hb o e=>G _ _ (Q _ _ e)) (B _ rfl))
theorem KN (G:X.calm=true) 
  (S:CompSc X scope cl) (f:oW X N' scope cl nT cap) (hi:JI X tg gk fi)
  (i:∀C s H fp,PG (jy X N' scope cl C s H fp) tg g) (O:MG X.K nT uO g) (hc:∀C s H fp,JC (jy X N' scope cl C s H fp) B2 fc) (he:∀C s H fp,JE (jy X N' scope cl C s H fp) B3 fe)
  (hs:∀x,foldedSetIterable gk X.env x=pure x:=by intro _;rfl):
  JE X (.ListComp B3 [⟨tg,gk,B2,0⟩] scope pos) (bM fi nT cap uO fc fe):=by
 intro ag s σ H Q I h;obtain⟨B,ρ,d,b,j,rep,e,q⟩:=h;obtain⟨items,ei,e⟩:=oX e;have hsz :=Decidable.byContradiction λz=>by rw[if_neg z]at e;cases e
 rw[if_pos hsz]at e;obtain⟨ds,k,e⟩:=oY e;cases e
 refine wpAny_comprehension_free  rfl hs S.clos S.kind S.names (c7 (hi _ s σ H (λJ H2=>∃N1,Ext B N1 H H2/\pq X.K J N1 _) I ⟨B,ρ,items,j,rep,ei,λJ H2 N1 M U=>⟨N1,M,U⟩⟩) λv s1 h1=>c7 h1 λA s2 h2=>?_);obtain⟨it,fp,tn,J,H2,e,l,T,n,f2,N1,M,U⟩:=h2;subst e;refine rz G S f i O hc he l T n f2 (rep.mono M.bn) M.nh U hsz k  ?_;intro Dd C s' H' N vs m p r hm fC x c hl;refine⟨m,hm,λh' a=>⟨.ref Dd,H',?_,rfl,q _ H' N (M.trans x) (.lst (ii.of c) hl) λ_=>⟨Dd,vs,ds,rfl,rfl,M.hh.free p,c,hl⟩⟩⟩;obtain⟨t,u,c2,c3,w,y⟩:=fC;exact r.turned  (λb o hb e=>(a.2 b hb).trans e) t u c3 w y
theorem KO (G:X.calm=true) 
  (l:X.N.Nodup) (U:X.N[i]? = some y) (hy:X.env.kindOf y=some .local)
  (n:swapsWith (.ListComp B3 [⟨tg,gk,B2,0⟩] scope pos) (some (.Name y py)) spos.line X.env=pure true)
  (S:CompSc X scope cl) (p:oW X N' scope cl nT cap) (hi:JI X tg gk fi)
  (t:∀C s H fp,PG (jy X N' scope cl C s H fp) tg g) (u:MG X.K nT uO g) (hc:∀C s H fp,JC (jy X N' scope cl C s H fp) B2 fc) (he:∀C s H fp,JE (jy X N' scope cl C s H fp) B3 fe)
  (hs:∀x,foldedSetIterable gk X.env x=pure x:=by intro _;rfl):
  JS X (.Assign [.Name y py] (.ListComp B3 [⟨tg,gk,B2,0⟩] scope pos) spos) (aU i (bM fi nT cap uO fc fe)):=by
 intro ag s σ H E I h;have h2 :=Dk h;obtain⟨B,ρ,d,b,A,rep,e,q⟩:=h2;obtain⟨items,ei,e⟩:=oX e;have hsz :=Decidable.byContradiction λz=>by rw[if_neg z]at e;cases e
 rw[if_pos hsz]at e;obtain⟨ds,D,e⟩:=oY e;cases e
 rw[exec_Assign_Name_used _ _ _ _ n];refine wX (wpAny_standAt (wX ?_));refine wX (wpAny_mono (wpAny_comprehension_free   rfl hs S.clos S.kind S.names
  (c7 (hi ag s σ H (λJ H2=>∃N1,Ext B N1 H H2/\pq X.K J N1 items) I ⟨B,ρ,items,A,rep,ei,λJ H2 N1 M c=>⟨N1,M,c⟩⟩) λv s1 h1=>c7 h1 λWz s2 h2=>?_)) (λ_ s' hq=>wY (wY hq)) λ_ _ e=>e)
 obtain⟨it,fp,tn,J,H2,e,F,T,L,f2,N1,M,c⟩:=h2;subst e;refine rz G S p t u hc he F T L f2 (rep.mono M.bn) M.nh c hsz D  ?_;intro Dd C s' H' N vs m P Q hm fC x O hl;obtain⟨R,j,c2,c3,k,V⟩:=fC;refine wpAny_assign_Name (vz Q l U (.inl hy) (r:=show aX (.ref Dd) (.ref Dd)from rfl) (λW Y ⟨a,Z,ha⟩=>?_) (.inr hy));have nC:C≠a:=by
  rcases ha with z|z
  .rw[z];exact j
  .exact λw=>k y a z w.symm
 refine⟨m,hm.sameBut Z nC,λh' f=>⟨_,H',?_,q _ H' N (M.trans x) (.lst (ii.of O) hl) λ_=>⟨Dd,vs,ds,rfl,rfl,M.hh.free P,O,hl⟩⟩⟩;exact Y.turned (t':=W.toks) (λb o hb e=>(f.2 b hb).trans e) R j c3 k V
section
variable {X:Cx}{a b c e:Expr}{pos:Pos}
theorem PE.to (h:PE X e t)(k:∀σ H Q,t' σ H Q->t σ H Q):PE X e t':=λag s σ H Q I q=>h _ s σ H Q I (k σ H Q q)
theorem PT.to (h:PT X e t)(k:∀σ H Q,t' σ H Q->t σ H Q):PT X e t':=λag s σ H Q I q=>h _ s σ H Q I (k σ H Q q)
theorem PW.to (h:PW X e t)(k:∀σ H Q,t' σ H Q->t σ H Q):PW X e t':=λG ag s σ H Q I q=>h G _ s σ H Q I (k σ H Q q)
theorem PA.to (h:PA X es t)(k:∀σ H Q,t' σ H Q->t σ H Q):PA X es t':=λpos ag s σ H Q I q=>h _ _ s σ H Q I (k σ H Q q)
theorem PS.to {st:Stmt}{t t':TS}(h:PS X st t)(k:∀E σ H,t' E σ H->t E σ H):PS X st t':=λag s σ H E I q=>h _ s σ H E I (k E σ H q)
theorem uR.to {st:List Stmt}{t t':TS}(h:uR X st t)(k:∀E σ H,t' E σ H->t E σ H):uR X st t':=λag s σ H E I q=>h _ s σ H E I (k E σ H q)
theorem PI.to (h:PI X tg it t)(k:∀σ H Q,t' σ H Q->t σ H Q):PI X tg it t':=λag s σ H Q I q=>h _ s σ H Q I (k σ H Q q)
theorem EX {K:Frag}{d:D}{v:V}(i:∀B,Is K B v d){σ:St}{H:Hp}{Q:VK}(h:tD K (fC d) σ H Q):tC v σ H Q:=by
 obtain⟨B,ρ,d',b,s,r,e,q⟩:=h;cases e
 exact q.one s (i B)
theorem pv (M:X.N[i]? = some x:=by rfl)(hv:Nw X.env.scope x:=by first|exact Or.inl rfl|exact Or.inr (Or.inl rfl)|exact Or.inr (Or.inr rfl))(hd:(x == ("__debug__" : Str))=false:=by decide)
  (G:(x == ("__classdict__" : Str))=false:=by decide):PE X (.Name x pos) (qH i):=rh M hv hd G
theorem ah (i:Nat)(G:PE X (.Name x pos) (qH i):=by exact pv):JE X (.Name x pos) (aj i):=PE.to G λ_ _ _ h=>Oj h
theorem ax:JE X (.Constant (.int i) j pos) (fC (.int i)):=PE.to Nx λ_ _ _ h=>EX (λ_=>.int i) h
theorem cE:JE X (.Constant (.bool i) j pos) (fC (.bl i)):=PE.to Qz λ_ _ _ h=>EX (λ_=>.bl i) h
theorem cS:JE X (.Constant .none j pos) (fC .non):=PE.to Ny λ_ _ _ h=>EX (λ_=>.non) h
theorem a0:JE X (.Constant (.str x) j pos) (fC (.str x)):=PE.to Nz λ_ _ _ h=>EX (λ_=>.str x) h
theorem KP (G:Gl X x)(hm:X.mg x=some u)(r:aX v u)(i:∀B,Is X.K B v d)(hd:(x == ("__debug__" : Str))=false:=by decide):JE X (.Name x pos) (fC d):=PE.to (qP G hm r hd) λ_ _ _ h=>EX i h
theorem aE (G:dU X (binaryOp op) (rD X.K f))(ha:JE X a fa)(hb:JE X b M):JE X (.BinOp a op b pos) (f2 f fa M):=PE.to (QH G ha hb) λ_ _ _ h=>K7 h
theorem Rj (G:QG X (unaryOp op) (Uh X.K f))(ha:JE X a fa):JE X (.UnaryOp op a pos) (f1 f fa):=PE.to (QI G ha) λ_ _ _ h=>Ui h
theorem bS (G:dU X (compareOp op) (rD X.K f))(ha:JE X a fa)(hb:JE X b M)(hm:behindInMarks op b=false:=by first|exact lh _ V9 V9|rfl):JE X (.Compare a [op] [b] pos) (f2 f fa M):=PE.to (Ku G ha hb hm) λ_ _ _ h=>K7 h
theorem yf {K:Frag}{f:FE}{σ:St}{H:Hp}{Q:Bool->Hp->Prop}(h:Dh K (aY f) σ H Q):tD K f σ H λx H'=>∃k,x=.bl k/\Q k H':=by
 obtain⟨B,ρ,c,s,r,e,q⟩:=h;unfold aY at e;split at e
 .rename_i M b' G;cases e
  refine⟨B,ρ,.bl c,b',s,r,G,λv H' N x i _=>?_⟩;cases i
  exact⟨c,rfl,q H' x.hh⟩
 simp_all
theorem aB (G:dU X (compareOp op) (rD X.K f))(ha:JE X a fa)(hb:JE X b M)(hm:behindInMarks op b=false:=by first|exact lh _ V9 V9|rfl):JT X (.Compare a [op] [b] pos) (aY (f2 f fa M)) :=
 PT.to (CV G ha hb hm) λ_ _ _ h=>K7 (yf h)
theorem bj (h:JE X e f)(he:∀G,isTrue e X.env G=(do let v <-G;standAt e.pos;holding [v] (truthy v)):=by intro _;rfl):JT X e (aY f):=PT.to (N7 h he) λ_ _ _ q=>yf q
@[simp] noncomputable def hZ (f g:D->D->OB)(fa G M:FE):FE:=λρ=>(fa ρ).bind λx=>(G ρ).bind λy=>match f x.1 y.1 with
 |some (.bl true,_)=>(M ρ).bind λz=>g y.1 z.1
 |some (.bl false,_)=>some (.bl false,false)
 |_=>none
theorem z6 {K:Frag}{f g:D->D->OB}{fa j k:FE}{σ:St}{H:Hp}{Q:VK}(h:tD K (hZ f g fa j k) σ H Q):BC (rD K f) (rD K g) (tD K fa) (tD K j) (tD K k) σ H Q:=by
 obtain⟨B,ρ,d,b,s,r,e,q⟩:=h;obtain⟨x,ex,e⟩:=oX e;obtain⟨y,m,e⟩:=oX e;refine⟨B,ρ,x.1,x.2,s,r,ex,λv w N1 O i1 _=>⟨N1,ρ,y.1,y.2,O.nh,r.mono O.bn,m,λA H2 N2 G i2 _=>?_⟩⟩;split at e
 .rename_i b' T;obtain⟨z,n,e⟩:=oX e;refine⟨N2,x.1,y.1,.bl _,b',G.nh,i1.mono G.bn,i2,T,λo p l M U _=>?_⟩;cases U
  refine⟨true,rfl,?_⟩;refine⟨l,ρ,z.1,z.2,M.nh,r.mono (O.bn.trans (G.bn.trans M.bn)),n,λC E t i u _=>⟨t,y.1,z.1,d,b,i.nh,i2.mono (M.bn.trans i.bn),u,e,?_⟩⟩;exact q.into ((O.trans G).trans (M.trans i))
 .rename_i b' T;cases e
  refine⟨N2,x.1,y.1,.bl _,b',G.nh,i1.mono G.bn,i2,T,λo p l M U _=>?_⟩;cases U
  refine⟨false,rfl,?_⟩;exact(q.into ((O.trans G).trans M)).one M.nh (.bl _)
 simp_all
theorem r6 (M:dU X (compareOp op) (rD X.K f))(G:dU X (compareOp O) (rD X.K g))(ha:JE X a fa)(hb:JE X b T)(hc:JE X c U)
  (hm:lastMarks [op,O] [b,c]=false:=by with_unfolding_all rfl):JE X (.Compare a [op,O] [b,c] pos) (hZ f g fa T U):=PE.to (G5 M G ha hb hc hm) λ_ _ _ h=>z6 h
theorem z8 (M:dU X (compareOp op) (rD X.K f))(G:dU X (compareOp O) (rD X.K g))(ha:JE X a fa)(hb:JE X b T)(hc:JE X c U)
  (hm:lastMarks [op,O] [b,c]=false:=by with_unfolding_all rfl):JT X (.Compare a [op,O] [b,c] pos) (aY (hZ f g fa T U)):=PT.to (G6 M G ha hb hc hm) λ_ _ _ h=>z6 (yf h)
theorem KQ {K:Frag}{f g:FT}{σ:St}{H:Hp}{Q:Bool->Hp->Prop}(h:Dh K (fy f g) σ H Q):Q0 (Dh K f) (Dh K g) σ H Q:=by
 obtain⟨B,ρ,c,s,r,e,q⟩:=h;unfold fy at e;cases G:f ρ with
 |none=>rw[G]at e;cases e
 |some k=>
  rw[G]at e;refine⟨B,ρ,k,s,r,G,λM h1=>?_⟩;cases k with
  |true=>exact⟨B,ρ,c,s.trans h1,r,e,λH2 h2=>q H2 (h1.trans h2)⟩
  |false=>simp_all
theorem Op {K:Frag}{f g:FT}{σ:St}{H:Hp}{Q:Bool->Hp->Prop}(h:Dh K (dC f g) σ H Q):VN (Dh K f) (Dh K g) σ H Q:=by
 obtain⟨B,ρ,c,s,r,e,q⟩:=h;unfold dC at e;cases G:f ρ with
 |none=>rw[G]at e;cases e
 |some k=>
  rw[G]at e;refine⟨B,ρ,k,s,r,G,λM h1=>?_⟩;cases k with
  |false=>exact⟨B,ρ,c,s.trans h1,r,e,λH2 h2=>q H2 (h1.trans h2)⟩
  |true=>simp_all
theorem KR {K:Frag}{f:FT}{σ:St}{H:Hp}{Q:Bool->Hp->Prop}(h:Dh K (cf f) σ H Q):Q1 (Dh K f) σ H Q:=by
 obtain⟨B,ρ,c,s,r,e,q⟩:=h;obtain⟨k,ek,e⟩:=oY e;subst e;exact⟨B,ρ,k,s,r,ek,λG h1=>q G h1⟩
variable {ay:QD}
theorem iz (ha:JT X a f):JW X (.BoolOp .And [a] pos) f:=Kn ha
theorem dF (ha:JT X a f):JW X (.BoolOp .Or [a] pos) f:=NA ha
theorem jX (ha:JT X a f)(hb:JW X (.BoolOp .And (b::ay) pos) g):JW X (.BoolOp .And (a::b::ay) pos) (fy f g):=PW.to (NB ha hb) λ_ _ _ h=>KQ h
theorem dQ (ha:JT X a f)(hb:JW X (.BoolOp .Or (b::ay) pos) g):JW X (.BoolOp .Or (a::b::ay) pos) (dC f g):=PW.to (Q2 ha hb) λ_ _ _ h=>Op h
theorem gA (h:JW X e f):JT X e f:=h.pt
theorem bU (ha:JT X a f):JT X (.UnaryOp .Not a pos) (cf f):=PT.to (NC ha) λ_ _ _ h=>KR h
@[simp] noncomputable def iL (f g:FE):FE:=λρ=>match f ρ with|some (.bl true,_)=>g ρ|some (.bl false,_)=>some (.bl false,false)|_=>none
@[simp] noncomputable def Hb (f g:FE):FE:=λρ=>match f ρ with|some (.bl true,_)=>some (.bl true,false)|some (.bl false,_)=>g ρ|_=>none
@[simp] noncomputable def Hd (f:FE):FE:=λρ=>match f ρ with|some (.bl c,_)=>some (.bl (!c),false)|_=>none
theorem dG (ha:JE X a f)(hb:JE X (.BoolOp .And (b::ay) pos) g):JE X (.BoolOp .And (a::b::ay) pos) (iL f g):=PE.to (NE ha hb) λσ H Q h=>by
 obtain⟨B,ρ,d,k,s,r,e,q⟩:=h;unfold iL at e;split at e
 .rename_i b' M;refine⟨B,ρ,_,_,s,r,M,λv O N1 G i1 _=>?_⟩;cases i1
  refine⟨true,rfl,?_⟩;exact⟨N1,ρ,d,k,G.nh,r.mono G.bn,e,q.into G⟩
 .rename_i b' M;cases e
  refine⟨B,ρ,_,_,s,r,M,λv O N1 G i1 _=>?_⟩;cases i1
  refine⟨false,rfl,?_⟩;exact(q.into G).one G.nh (.bl _)
 simp_all
theorem rA (ha:JE X a f)(hb:JE X (.BoolOp .Or (b::ay) pos) g):JE X (.BoolOp .Or (a::b::ay) pos) (Hb f g):=PE.to (Q5 ha hb) λσ H Q h=>by
 obtain⟨B,ρ,d,k,s,r,e,q⟩:=h;unfold Hb at e;split at e
 .rename_i b' M;cases e
  refine⟨B,ρ,_,_,s,r,M,λv O N1 G i1 _=>?_⟩;cases i1
  refine⟨true,rfl,?_⟩;exact(q.into G).one G.nh (.bl _)
 .rename_i b' M;refine⟨B,ρ,_,_,s,r,M,λv O N1 G i1 _=>?_⟩;cases i1
  refine⟨false,rfl,?_⟩;exact⟨N1,ρ,d,k,G.nh,r.mono G.bn,e,q.into G⟩
 simp_all
theorem cI (h:JE X a f):JE X (.BoolOp op [a] pos) f:=ND h
theorem Oq (ha:JE X a f):JE X (.UnaryOp .Not a pos) (Hd f):=PE.to (NF ha) λσ H Q h=>by
 obtain⟨B,ρ,d,k,s,r,e,q⟩:=h;unfold Hd at e;split at e
 .rename_i c b' M;cases e
  refine⟨B,ρ,_,_,s,r,M,λv O N1 G i1 _=>?_⟩;cases i1
  exact⟨c,rfl,(q.into G).one G.nh (.bl _)⟩
 simp_all
variable {es:QD}
theorem am:JA X [] ai:=PA.to hW λ_ _ _ h=>K9 h
theorem ak (ha:JE X e f)(G:JA X es g)(hs:starEach (e::es) X.env=(false,eval e X.env)::starEach es X.env:=by rfl):JA X (e::es) (af f g):=PA.to (fF ha G hs) λ_ _ _ h=>GU h
@[simp] noncomputable def aM:LD->OB:=λds=>if ds.length<=sizeLine then some (.tup ds,false)else none
@[simp] noncomputable def bQ:LD->OB:=λds=>if ds.length<=sizeLine then some (.lst ds,true)else none
theorem aP {G}(h:JA X es f):JE X (.Tuple es G pos) (fA aM f):=PE.to (BF h) λσ H Q q=>by
 obtain⟨B,ρ,ds,s,r,e,k⟩:=K8 q;refine⟨B,ρ,ds,s,r,e,λvs M N1 G i1=>?_⟩;obtain⟨T,O,d,b,s2,i2,e2,k2⟩:=k vs M N1 G i1;unfold aM at e2;split at e2
 .rename_i hz;cases e2
  refine⟨by rw[i2.length];exact hz,λp hp=>k2 _ _ _ (.laid s2 hp) (.tup (jw.of a8) (i2.mono (Ext.laid s2 hp).bn)) N9⟩
 simp_all
theorem bY (h:JA X es f):JE X (.List es pos) (fA bQ f):=PE.to (NY h) λσ H Q q=>by
 obtain⟨B,ρ,ds,s,r,e,k⟩:=K8 q;refine⟨B,ρ,ds,s,r,e,λvs M N1 O i1=>?_⟩;obtain⟨T,G,d,b,s2,i2,e2,k2⟩:=k vs M N1 O i1;unfold bQ at e2;split at e2
 .rename_i hz;cases e2
  refine⟨by rw[i2.length];exact hz,λp hp=>k2 _ _ _ (.laid s2 hp) (.lst (ii.of a8) (i2.mono (Ext.laid s2 hp).bn)) λ_=>⟨p,vs,G,rfl,rfl,hp,a8,i2.mono (Ext.laid s2 hp).bn⟩⟩
 simp_all
end
section
variable {X:Cx}
theorem jY (h:dU X f r)(k:∀x y H Q,O x y H Q->r x y H Q):dU X f O:=λag s σ H x y v u Q I G M q=>h _ s σ H x y v u Q I G M (k x y H Q q)
noncomputable def Rk (f g:D->D->OB):D->D->OB:=λx y=>match f x y with|some r=>some r|none=>g x y
theorem rB (h:dU X s (rD X.K f))(h':dU X s (rD X.K g)):dU X s (rD X.K (Rk f g)):=by
 intro ag st σ H x y v u Q I G M q;obtain⟨B,dx,O,d,b,T,U,a,e,q⟩:=q;unfold Rk at e;split at e
 .rename_i r c;cases e
  exact h _ st σ H x y v u Q I G M ⟨B,dx,O,_,_,T,U,a,c,q⟩
 .exact h' _ st σ H x y v u Q I G M ⟨B,dx,O,_,_,T,U,a,e,q⟩
@[simp] noncomputable def BQ (C:Int->Int->Bool)(g:Int->Int->D):D->D->OB
 |.int i,.int j=>if C i j=true then some (g i j,false)else none
 |_,_=>none
theorem nR (h:dU X s (rI C g))(G:∀i j,C' i j=true->C i j)(M:∀i j B,Is X.K B (g i j) (g' i j)):dU X s (rD X.K (BQ C' g')):=by
 refine jY h λx y H Q q=>?_;obtain⟨B,dx,a,d,b,O,T,U,e,q⟩:=q;cases T<;>try (cases e)
 cases U<;>try (cases e)
 rename_i i j;simp only[BQ]at e;split at e
 .rename_i hc;cases e
  exact⟨i,j,rfl,rfl,G i j hc,q.one O (M i j B)⟩
 simp_all
theorem iM (h:dU X s (Kc g))(G:∀i j B,Is X.K B (g i j) (g' i j)):dU X s (rD X.K (BQ (λ_ _=>true) g')):=by
 refine jY h λx y H Q q=>?_;obtain⟨B,dx,U,d,b,M,O,T,e,q⟩:=q;cases O<;>try (cases e)
 cases T<;>try (cases e;done)
 rename_i i j;cases e
 exact⟨i,j,rfl,rfl,q.one M (G i j B)⟩
abbrev Uj:D->D->OB:=BQ (λ_ _=>true) λi j=>.int (i+j)
abbrev Ot:D->D->OB:=BQ (λ_ _=>true) λi j=>.int (i - j)
abbrev Rm:D->D->OB:=BQ (λi j=>decide ((-18446744073709551616<i/\i<18446744073709551616)\/(-18446744073709551616<j/\j<18446744073709551616))) λi j=>.int (i*j)
abbrev cu:D->D->OB:=BQ (λ_ j=>decide (0<j/\j<1073741824)) λi j=>.int (i / j)
abbrev cw:D->D->OB:=BQ (λ_ j=>decide (0<j)) λi j=>.int (i % j)
abbrev Rn:D->D->OB:=BQ (λi j=>decide (0<=j/\j<=1000000/\i.natAbs<18446744073709551616)) λi j=>.int (i ^ j.toNat)
abbrev Ro:D->D->OB:=BQ (λ_ _=>true) λi j=>.int (Builtin.bitAnd i j)
abbrev VY:D->D->OB:=BQ (λ_ _=>true) λi j=>.bl (decide (i<j))
abbrev X8:D->D->OB:=BQ (λ_ _=>true) λi j=>.bl (decide (i<=j))
abbrev Gs:D->D->OB:=BQ (λ_ _=>true) λi j=>.bl (decide (j<i))
abbrev To:D->D->OB:=BQ (λ_ _=>true) λi j=>.bl (decide (j<=i))
theorem Rp:dU X (binaryOp .Add) (rD X.K Uj):=iM NQ λ_ _ _=>.int _
theorem MH:dU X (binaryOp .Sub) (rD X.K Ot):=iM NR λ_ _ _=>.int _
theorem Rq:dU X (binaryOp .Mult) (rD X.K Rm):=nR NS (λi j h=>by simp_all[Ks]) λ_ _ _=>.int _
theorem bZ:dU X (binaryOp .FloorDiv) (rD X.K cu):=nR Kt (λi j h=>by simp_all[QK]) λ_ _ _=>.int _
theorem cz:dU X (binaryOp .Mod) (rD X.K cw):=nR NT (λ_ _ h=>Ss h) λ_ _ _=>.int _
theorem Rr:dU X (binaryOp .Pow) (rD X.K Rn):=nR NU (λi j h=>by simp_all[QL]) λ_ _ _=>.int _
theorem Rt:dU X (binaryOp .BitAnd) (rD X.K Ro):=iM NV λ_ _ _=>.int _
theorem Uk:dU X (compareOp .Lt) (rD X.K VY):=iM QM λ_ _ _=>.bl _
theorem Ul:dU X (compareOp .LtE) (rD X.K X8):=iM QN λ_ _ _=>.bl _
theorem BR:dU X (compareOp .Gt) (rD X.K Gs):=iM QO λ_ _ _=>.bl _
theorem Ru:dU X (compareOp .GtE) (rD X.K To):=iM QP λ_ _ _=>.bl _
@[simp] noncomputable def Um (C:Str->Str->Bool)(g:Str->Str->D):D->D->OB
 |.str i,.str j=>if C i j=true then some (g i j,false)else none
 |_,_=>none
abbrev Uo:D->D->OB:=Um (λi j=>decide (i.length+j.length<=sizeLine)) λi j=>.str (i++j)
abbrev X9:D->D->OB:=Um (λ_ _=>true) λi j=>.bl (!decide (j.cps.toList<i.cps.toList))
theorem Ou:dU X (binaryOp .Add) (rD X.K Uo):=by
 refine jY BD λx y H Q q=>?_;obtain⟨B,dx,T,d,b,G,M,O,e,q⟩:=q;cases M<;>try (cases e)
 cases O<;>try (cases e)
 rename_i i j;simp only[Um]at e;split at e
 .rename_i hc;cases e
  exact⟨i,j,rfl,rfl,Ss hc,q.one G (.str _)⟩
 simp_all
theorem Rv:dU X (compareOp .LtE) (rD X.K X9):=by
 intro ag s σ H x y v u Q I G M q;obtain⟨B,dx,a,d,b,O,T,U,e,q⟩:=q;cases T<;>try (cases e)
 cases U<;>try (cases e;done)
 cases e
 obtain⟨t,rfl⟩:=G;obtain⟨t',rfl⟩:=M;exact PySem.P.le_str ⟨.bl _,H,I,rfl,q.one O (.bl _)⟩
end
section
variable {X:Cx}{a b c e:Expr}{pos:Pos}{st:Stmt}{ay:List Stmt}
theorem fM:wm X [] aV:=uR.to Ko λ_ _ _ h=>GX h
theorem ao (h1:JS X st g)(h2:wm X ay h):wm X (st::ay) (a6 g h):=uR.to (Gz h1 h2) λ_ _ _ q=>KA q
theorem be (h1:JS X st g):wm X [st] g:=Kp h1
theorem fZ {c:Expr}{a b:List Stmt}{G:FT}{g h:FS}(hc:JT X c G)(ha:wm X a g)(hb:wm X b h):JS X (.If c a b pos) (dc G g h):=PS.to (QA hc ha hb) λ_ _ _ q=>Ol q
theorem He (he:JE X e f):JS X (.Return (some e) pos) (aH f):=PS.to (G0 he) λ_ _ _ q=>KE q
theorem gN (i:Nat)(G:PE X (.Name x p) (qH i):=by exact pv):JS X (.Return (some (.Name x p)) pos) (gU i):=PS.to (G0 G) λ_ _ _ q=>GY q
theorem aD (G:X.N.Nodup)(he:JE X e f)(hi:X.N[i]? = some x:=by rfl)(hx:Kb X.env.scope x:=by first|exact Or.inl rfl|exact Or.inr rfl)(hs:swapsWith e (some (.Name x p)) pos.line X.env=pure false:=by rfl)
  (hf:X.fn x=true\/X.env.scope.names.lookup x=some .local:=by first|exact .inl rfl|exact .inr rfl):JS X (.Assign [.Name x p] e pos) (aU i f):=PS.to (xP G hi hx he hs hf) λ_ _ _ q=>Dk q
theorem KS (G:X.N.Nodup)(he:JE X e f)(hi:X.N[i]? = some x:=by rfl)(hx:Kb X.env.scope x:=by first|exact Or.inl rfl|exact Or.inr rfl)(hs:swapsWith e (some (.Name x p)) pos.line X.env=pure false:=by rfl)
  (hf:X.fn x=true\/X.env.scope.names.lookup x=some .local:=by first|exact .inl rfl|exact .inr rfl):JS X (.Assign [.Name x p] e pos) (Dj i f):=PS.to (xP G hi hx he hs hf) λ_ _ _ q=>GZ q
theorem Hf (n:Nat)(hp:PassesOwn (model X.prog X.w) X.A X.env X.xe)(hc:JT X c M)(hb:wm X G g):JS X (.While c G [] pos) (iJ M g n):=PS.to (G2 hp hc hb) λ_ _ _ q=>EV q
theorem Ov (hp:PassesOwn (model X.prog X.w) X.A X.env X.xe)(hc:X.calm=true)(hi:JI X tg T fi)(G:PG X tg t)(M:KH X.K U t)(hb:wm X O g)
  (hs:∀x,foldedSetIterable T X.env x=pure x:=by intro _;rfl):JS X (.For tg T O [] pos) (my fi U g):=PS.to (G4 hp hc hi G hb hs) λ_ _ _ q=>KI M q
theorem KU (hp:PassesOwn (model X.prog X.w) X.A X.env X.xe)(hc:X.calm=true)(hi:PI X tg T (Tn X.K fi))(G:PG X tg t)(M:KH X.K U t)(hb:wm X O g)
  (hs:∀x,foldedSetIterable T X.env x=pure x:=by intro _;rfl):JS X (.For tg T O [] pos) (m6 fi U g):=PS.to (G4 hp hc hi G hb hs) λ_ _ _ q=>Ha M q
theorem gB (he:JE X e f)(U:PE X (.Name x p) (qH i):=by exact pv)
  (G:attributeBase (.Name x p) "append" X.env (eval (.Name x p) X.env)=eval (.Name x p) X.env:=by rfl)
  (O:((backTo cj (starEach [e] X.env)).all (λx=>!x.1) && (backToKw cj (keywordEach [] X.env)).all (λx=>x.1.isSome)
   && decide ([e].length+([]:List Keyword).length+(if([]:List Keyword).isEmpty then 0 else 1)<30))=true:=by rfl)
  (M:(di.endLine == cj.line)=true:=by rfl) (hs:starEach [e] X.env=[(false,eval e X.env)]:=by rfl) (T:swapsWith (.Call (.Attribute (.Name x p) "append" di) [e] [] cj) none pos.line X.env=pure false:=by rfl):
  JS X (.Expr (.Call (.Attribute (.Name x p) "append" di) [e] [] cj) pos) (jW i f):=by
 refine PS.to (CT (zr plainAttrs_list PySem.F.slot_list_append PySem.F.type_list_append wg U (fF he hW hs) G O M hs rfl) T) λE σ H q=>?_;obtain⟨a,us,h1,h2,k⟩:=KG q;exact⟨_,h1,.inl ⟨rfl,us,ii.of h2⟩,k⟩
end
@[simp] noncomputable def aC (g:FS)(n k:Nat):LD->OB:=λds=>if ds.length=n then
 match g (ds.map (λd=>some (d,false))++List.replicate k none) with
 |some (.rt d b)=>some (d,b)
 |some (.nx _)=>some (.non,false)
 |_=>none
 else none
def Hg (K:Frag)(f:LD->OB):Sp:=λvs H Q _=>∃(B:Hp)(ds:LD)(d:D)(b:Bool),(bc B H/\Tb K B)/\IsL K B vs ds/\f ds=some (d,b)/\Fin K B H d b Q
theorem rC {K:Frag}{B H:Hp}{vs:LV}{ds:LD}{N:LS}(M:bc B H)(tb:Tb K B)(i:IsL K B vs ds):eN K B H B H (L2.kR N vs) (ds.map (λd=>some (d,false))++List.replicate (N.length - vs.length) none):=by
 have G:∀(j:Nat)(d:D)(b:Bool),(ds.map (λd=>some (d,false))++List.replicate (N.length - vs.length) none:Env)[j]? = some (some (d,b))->b=false/\ds[j]? = some d:=λj d b e=>by
  by_cases hj:j<ds.length
  .rw[getElem?_append_left (by simpa using hj),vA]at e;obtain⟨d',h1,h2⟩:=oY e;cases h2
   exact⟨rfl,h1⟩
  .rw[getElem?_append_right (by simpa using Nat.not_lt.mp hj),List.getElem?_replicate]at e;split at e<;>cases e
 have O:∀a,¬own (L2.kR N vs) (ds.map (λd=>some (d,false))++List.replicate (N.length - vs.length) none) a:=λa ⟨j,d,h,_⟩=>by
  obtain⟨z,_⟩:=G j d true h;cases z
 refine⟨M,tb,.refl M,?_,λj d e=>?_,λj d e=>?_,λj k a d e h=>?_⟩
 .unfold L2.kR;rw[uZ,uZ,vI,vI,length_replicate,length_replicate,i.length]
 .obtain⟨_,T⟩:=G j d false e;obtain⟨v,h1,h2⟩:=i.get T;refine⟨v,?_,h2.mono λa o e=>by rw[dD (O a)];exact e⟩;unfold L2.kR;have hj :=(vV h1).1;rw[getElem?_append_left (by simpa using hj),vA,h1]<;>rfl
 .obtain⟨z,_⟩:=G j d true e;cases z
 .obtain⟨z,_⟩:=G j d true h;cases z
section
variable {P:Program}{w:World}{K:Frag}{mg:SV}{base:Heap}
theorem Rw {x qual:Str}{st:Stmt}{f:Addr}{fd:FuncData}{N ps:LS}{k:Nat}{g:FS}(F:PJ K x qual st f fd)(S:FnScope N ps (aO st))
  (hb:∀(dv:Value)(A:Around)(outer:List PySem.Env)(s:Shared)(H:Hp)(E:XK),eU k (A.deeper (envOfC qual (aO st) s.heap.objs.size f dv))->wm (ph zi P w K mg base N qual (aO st) f dv A outer s H E).nox (cc st) g):
  uM P w K mg base zi (k+1) f fd ps (Hg K (aC g ps.length (N.length - ps.length))):=by
 have len:∀vs H Q E,Hg K (aC g _ (N.length - ps.length)) vs H Q E->vs.length=ps.length:=λvs H Q E h=>by
  obtain⟨B,ds,d,b,M,i,e,q⟩:=h;unfold aC at e;split at e
  .rename_i hl;rw[i.length];exact hl
  simp_all
 refine F.ok S len λdv A outer s H vs Q E U h=>⟨_,hb _ A _ s H E U,?_⟩;have G:=len vs H Q E h;obtain⟨B,ds,d,b,M,i,e,q⟩:=h;unfold aC at e;rw[if_pos (by rw[<-i.length];exact G)]at e;have O:=rC (N:=N) M.1 M.2 i;rw[G]at O;split at e
 .rename_i d' b' T;cases e
  exact⟨B,H,_,_,⟨B,O⟩,T,λv H' N' a c j=>q v H' N' a c j⟩
 .rename_i ρ' T;cases e
  exact⟨B,H,_,_,⟨B,O⟩,T,λl H' ⟨N',s'⟩=>q _ H' N' s'.ext .non N9⟩
 simp_all
structure Fn (P:Program)(w:World)(K:Frag)(mg:Str->Option Value)(base:Heap)(k:Nat)(x:Str)(f:List D->OB):Prop where
 ex:∃(ad:Addr)(fd:FuncData)(ps:List Str),uM P w K mg base zi k ad fd ps (Hg K f)/\mg x=some (.ref ad)/\PySem.W.keepIn K (.ref ad)=true/\pU K fd ps []
end
theorem Dl (F:Fn X.prog X.w X.K X.mg X.base k x f)(T:eU k X.A)(ha:JA X (e::es) fa)(U:Gl X x:=by rfl)
  (G:(x == ("__debug__" : Str))=false:=by decide) (he:starEach (e::es) X.env=(false,eval e X.env)::starEach es X.env:=by rfl) (M:(backTo pos (starEach es X.env)).any (·.1)=false:=by rfl):
  JE X (.Call (.Name x p) (e::es) [] pos) (fA f fa):=by
 obtain⟨ad,fd,ps,a,hm,hk,hb⟩:=F.ex;refine PE.to (CY a T U hm hk hb .nil MC ha G he M) λσ H Q q=>?_;obtain⟨B,ρ,d,b,s,r,e,q⟩:=q;obtain⟨ds,ex,e⟩:=oX e;exact⟨B,ρ,ds,s,r,ex,λvs c N1 O i1=>by
  show Hg _ f _ c Q _;rw[uQ];exact⟨N1,ds,d,b,⟨O.nh,r.tb.mono O.bn⟩,i1,e,q.into O⟩⟩
mutual
@[simp] def fu:D->D->Bool
 |.non,.non=>true
 |.bl a,.bl b=>a == b
 |.bl a,.int b=>decide ((if a then 1 else 0)=b)
 |.int a,.bl b=>decide (a=(if b then 1 else 0))
 |.int a,.int b=>decide (a=b)
 |.str a,.str b=>decide (a=b)
 |.tup xs,.tup ys=>ls xs ys
 |.lst xs,.lst ys=>ls xs ys
 |_,_=>false
@[simp] def ls:LD->LD->Bool
 |[],[]=>true
 |x::xs,y::ys=>fu x y && ls xs ys
 |_,_=>false
end
@[simp] theorem z9 (a:Str)(b:Str):fu (.str a) (.str b)=decide (a=b):=by simp only[fu]
@[simp] noncomputable def br:Nat->D->Bool
 |_,.non=>true
 |_,.bl _=>true
 |_,.int _=>true
 |_,.str _=>true
 |_,.ty _=>false
 |_,.dk _ _=>false
 |_,.dt _ _=>false
 |0,.tup _=>false
 |0,.lst _=>false
 |n+1,.tup ds=>ds.all (br n)
 |n+1,.lst ds=>ds.all (br n)
theorem zF:∀ {xs ys:LD},ls xs ys=true->xs.length=ys.length
 |[],[],_=>rfl
 |x::xs,y::ys,h=>by
  simp  [ls,vC]at h;rw[vE,vE,zF h.2]
 |[],_::_,h=>by simp  at h
 |_::_,[],h=>by simp  at h
theorem yg (h:xs.length≠ys.length):ls xs ys=false:=by
 grind[zF]
theorem jZ (f:Nat->Bool):∀ {xs ys:LD},xs.length=ys.length->(∀(j:Nat) x y,xs[j]? = some x->ys[j]? = some y->f j=fu x y)->(List.range xs.length).all f=ls xs ys
 |[],[],_,_=>by simp
 |x::xs,y::ys,hl,h=>by
  have e:=jZ _   (by simpa using hl) λj a b h1 h2=>h (j+1) a b (by simpa using h1) (by simpa using h2);rw[vE,List.range_succ_eq_map,all_cons,List.all_map,ls,<-h 0 x y rfl rfl,<-e];rfl
 |[],_::_,hl,_=>by simp at hl
 |_::_,[],hl,_=>by simp at hl
section
variable {X:Cx}{ag:AO}{σ:St}{H:Hp}{s:Shared}
theorem Dm (I:Inv X ag σ H s)(h1:jw X.K H a vs)(h2:ii X.K H a ws):False:=by
 obtain⟨its,_,⟨o,e,c,_⟩,_⟩:=I.tuple h1;obtain⟨its',_,⟨o',G,M,O,_⟩,_⟩:=I.list h2;lia
theorem Dn (I:Inv X ag σ H s)(e:s.heap.get? a=some o)(d:o.data=.seq its n):(∀aR ob,H a≠some (.dK aR ob))/\∀aR,H a≠some (.dT aR):=by
 refine⟨λaR ob h=>?_,λaR h=>?_⟩
 .obtain⟨_,_,_,_,_,o',es,G,M,_,d',_⟩:=(show bP _ _ H _ a _ from I.hok a _ h);simp_all
 .obtain⟨_,_,_,_,o',es,G,M,_,d',_⟩:=(show bP _ _ H _ a _ from I.hok a _ h);simp_all
theorem zG (I:Inv X ag σ H s)(h1:jw X.K H a vs):(∀aR ob,H a≠some (.dK aR ob))/\∀aR,H a≠some (.dT aR):=by
 obtain⟨its,_,⟨o,e,c,n,d⟩,_⟩:=I.tuple h1;exact Dn I e d
theorem zH (I:Inv X ag σ H s)(h1:ii X.K H a vs):(∀aR ob,H a≠some (.dK aR ob))/\∀aR,H a≠some (.dT aR):=by
 obtain⟨its,_,p,_⟩:=I.list h1;obtain⟨o,e,c,n,d⟩:=p.isList;exact Dn I e d
theorem Dp (I:Inv X ag σ H s):∀(n:Nat){v:V}{d d':D},Is X.K H v d->Is X.K H v d'->br n d=true->fu d d'=true:=by
 have G:∀ {p:D->Bool}(ih:∀ {v:V}{d d':D},Is X.K H v d->Is X.K H v d'->p d=true->fu d d'=true) {vs:LV}{ds M:LD},IsL X.K H vs ds->IsL X.K H vs M->ds.all p=true->ls ds M=true:=by
  intro p ih vs;induction vs with
  |nil=>intro ds M h h' _;cases h;cases h';rfl
  |cons v vs O=>
   intro ds M h h' hp;cases h with
   |cons h1 h2=>
    cases h' with
    |cons h3 h4=>
     rw[all_cons,vC]at hp;rw[ls,ih h1 h3 hp.1,O h2 h4 hp.2];rfl
 intro n;induction n with
 |zero=>
  intro v d d' h h' hp;cases h<;>cases h'<;>first|(simp  at hp;done)|simp
 |succ n ih=>
  intro v d d' h h' hp;cases h with
  |tup h1 h2=>
   cases h' with
   |tup h3 h4=>
    rw[I.tuple_inj h3 h1]at h4;exact G ih h2 h4 (by simpa [br]using hp)
   |lst h3 h4=>exact(Dm I h1 h3).elim
   |dk h3 _ _=>exact((zG I h1).1 _ _ h3).elim
   |dt h3 _ _=>exact((zG I h1).2 _ h3).elim
  |lst h1 h2=>
   cases h' with
   |lst h3 h4=>
    rw[I.list_inj h3 h1]at h4;exact G ih h2 h4 (by simpa [br]using hp)
   |tup h3 h4=>exact(Dm I h3 h1).elim
   |dk h3 _ _=>exact((zH I h1).1 _ _ h3).elim
   |dt h3 _ _=>exact((zH I h1).2 _ h3).elim
  |ty=>simp  at hp
  |dk=>simp  at hp
  |dt=>simp  at hp
  |_=>cases h'<;>simp
theorem zI {A:Around}{p:D->Bool}(ih:∀ {M O:V}{d1 d2:D}{T U:Value},p d1=true->p d2=true->Is X.K H M d1->Is X.K H O d2->aX M T->aX O U->SeqAt.EqAt A s T U (fu d1 d2))
  {vs ws:LV}{ds es:LD}{its G:LU}(i1:IsL X.K H vs ds) (i2:IsL X.K H ws es) (a:bg vs its) (b:bg ws G) (c:ds.all p=true) (p2:es.all p=true):
  ∀j (h1:j<its.toArray.size) (h2:j<G.toArray.size),SeqAt.EqAt A s its.toArray[j] G.toArray[j] (fu (ds.getD j .non) (es.getD j .non)):=by
 intro j h1 h2;rw[vH]at h1 h2;have l1:=a.length;have l2:=b.length;have e:=i1.length;have f:=i2.length;have hv:j<vs.length:=M9
 have hw:j<ws.length:=M9
 have hd:j<ds.length:=M9
 have he:j<es.length:=M9
 obtain⟨u,g,h⟩:=a.get (i:=j) (x:=vs[j]) (by simp );obtain⟨u',e2,k⟩:=b.get (i:=j) (x:=ws[j]) (by simp );obtain⟨v,l,m⟩:=i1.get (i:=j) (d:=ds[j]) (by simp );obtain⟨w,n,o⟩:=i2.get (i:=j) (d:=es[j]) (by simp );grind
theorem yh {xs ys:LD}(j:Nat)(x y:D)(h1:xs[j]? = some x)(h2:ys[j]? = some y):fu (xs.getD j .non) (ys.getD j .non)=fu x y:=by
 simp[h1,h2]
abbrev Uq (A:Around)(s:Shared)(G M:Value)(b:Bool):Prop:=SeqAt.RcAt A s G M b/\SeqAt.EqAt A s G M b/\SeqAt.RcNeAt A s G M (!b)
theorem Dq {G M:Addr}(rc:SeqAt.RcAt A s (.ref G) (.ref M) b)(O:SeqAt.RcNeAt A s (.ref G) (.ref M) (!b))(h:G=M->b=true):Uq A s (.ref G) (.ref M) b:=by
 grind[SeqAt.EqAt.same,SeqAt.EqAt.of_refs]
theorem zJ (O:br 0 d1=true)(p2:br 0 d2=true)(i1:Is X.K H T d1)(i2:Is X.K H U d2)(M:aX T u1)(G:aX U u2):Uq A s u1 u2 (fu d1 d2):=by
 cases i1 with
 |non=>
  cases M
  cases i2 with
  |non=>cases G;rw[fu];exact⟨.none_none,.same _,.none_none⟩
  |bl b=>cases G;simp only[fu];exact⟨.none_bool _,.none_bool _,.none_bool _⟩
  |int b=>obtain⟨t',rfl⟩:=G;simp only[fu];exact⟨.none_int _ _,.none_int _ _,.none_int _ _⟩
  |str b=>obtain⟨t',rfl⟩:=G;simp only[fu];exact⟨.none_str _ _,.none_str _ _,.none_str _ _⟩
  |_=>simp at p2
 |bl a=>
  cases M
  cases i2 with
  |non=>cases G;simp only[fu];exact⟨.bool_none _,.bool_none _,.bool_none _⟩
  |bl b=>cases G;rw[fu];exact⟨.bool_bool _ _,.bool_bool _ _,.bool_bool _ _⟩
  |int b=>obtain⟨t',rfl⟩:=G;exact⟨.bool_int _ _ _,.bool_int _ _ _,.bool_int _ _ _⟩
  |str b=>obtain⟨t',rfl⟩:=G;simp only[fu];exact⟨.bool_str _ _ _,.bool_str _ _ _,.bool_str _ _ _⟩
  |_=>simp at p2
 |int a=>
  obtain⟨t,rfl⟩:=M;cases i2 with
  |non=>cases G;simp only[fu];exact⟨.int_none _ _,.int_none _ _,.int_none _ _⟩
  |bl b=>cases G;exact⟨.int_bool _ _ _,.int_bool _ _ _,.int_bool _ _ _⟩
  |int b=>obtain⟨t',rfl⟩:=G;exact⟨.int_int _ _ _ _,.int_int _ _ _ _,.int_int _ _ _ _⟩
  |str b=>obtain⟨t',rfl⟩:=G;simp only[fu];exact⟨.int_str _ _ _ _,.int_str _ _ _ _,.int_str _ _ _ _⟩
  |_=>simp at p2
 |str a=>
  obtain⟨t,rfl⟩:=M;cases i2 with
  |non=>cases G;simp only[fu];exact⟨.str_none _ _,.str_none _ _,.str_none _ _⟩
  |bl b=>cases G;simp only[fu];exact⟨.str_bool _ _ _,.str_bool _ _ _,.str_bool _ _ _⟩
  |int b=>obtain⟨t',rfl⟩:=G;simp only[fu];exact⟨.str_int _ _ _ _,.str_int _ _ _ _,.str_int _ _ _ _⟩
  |str b=>obtain⟨t',rfl⟩:=G;exact⟨.str_str _ _ _ _,.str_str _ _ _ _,.str_str _ _ _ _⟩
  |_=>simp at p2
 |_=>simp at O
theorem MI (I:Inv X ag σ H s):∀(n:Nat){A:Around}{c d:V}{d1 d2:D}{f g:Value},A.units+n<cLine->br n d1=true->br n d2=true->Is X.K H c d1->Is X.K H d d2->aX c f->aX d g->Uq A s f g (fu d1 d2):=by
 intro n;induction n with
 |zero=>exact λ_ b p2 i1 i2 T a=>zJ b p2 i1 i2 T a
 |succ n ih=>
  intro A c d d1 d2 f g hu b p2 i1 i2 T a;have G:A.units<cLine:=M9
  have u:∀ {c d:V}{d1 d2:D}{f g:Value},br n d1=true->br n d2=true->Is X.K H c d1->Is X.K H d d2->aX c f->aX d g->SeqAt.EqAt A.in1 s f g (fu d1 d2):=λb p2 i1 i2 T a=>(ih (A:=A.in1) (by show A.units+1+n<cLine;lia) b p2 i1 i2 T a).2.1;by_cases f2:br 0 d2=true
  .by_cases f1:br 0 d1=true
   .exact zJ f1 f2 i1 i2 T a
   .cases i1 with
    |tup h1 k1=>
     cases T
     obtain⟨its,U,M,h⟩:=I.tuple h1;cases i2 with
     |non=>cases a;simp only[fu];exact⟨.tuple_none M G,.tuple_none M G,.tuple_none M G⟩
     |bl=>cases a;simp only[fu];exact⟨.tuple_bool _ M G,.tuple_bool _ M G,.tuple_bool _ M G⟩
     |int=>obtain⟨t,rfl⟩:=a;simp only[fu];exact⟨.tuple_int _ _ M G,.tuple_int _ _ M G,.tuple_int _ _ M G⟩
     |str=>obtain⟨t,rfl⟩:=a;simp only[fu];exact⟨.tuple_str _ _ M G,.tuple_str _ _ M G,.tuple_str _ _ M G⟩
     |_=>simp at f2
    |lst h1 k1=>
     cases T
     obtain⟨its,U,M,h⟩:=I.list h1;replace M:=M.isList;cases i2 with
     |non=>cases a;simp only[fu];exact⟨.list_none M G,.list_none M G,.list_none M G⟩
     |bl=>cases a;simp only[fu];exact⟨.list_bool _ M G,.list_bool _ M G,.list_bool _ M G⟩
     |int=>obtain⟨t,rfl⟩:=a;simp only[fu];exact⟨.list_int _ _ M G,.list_int _ _ M G,.list_int _ _ M G⟩
     |str=>obtain⟨t,rfl⟩:=a;simp only[fu];exact⟨.list_str _ _ M G,.list_str _ _ M G,.list_str _ _ M G⟩
     |_=>simp at f2
    |_=>simp at f1 b
  .cases i2 with
   |tup h2 k2=>
    cases a
    obtain⟨i,k,O,v⟩:=I.tuple h2;cases i1 with
    |tup h1 k1=>
     cases T
     obtain⟨its,U,M,h⟩:=I.tuple h1;rename_i m ws es o vs ds;have he:=zI (A:=A.in1) (p:=br n) u k1 k2 U k (by simpa using b) (by simpa using p2);have q:((List.range (min its.toArray.size i.toArray.size)).all (λj=>fu (ds.getD j .non) (es.getD j .non)) && its.toArray.size == i.toArray.size)=fu (.tup ds) (.tup es):=by
      rw[fu,vH,vH,<-U.length,<-k.length,k1.length,k2.length];by_cases hl:ds.length=es.length
      .rw[<-hl,Nat.min_self,beq_self_eq_true,Bool.and_true];exact jZ _ hl λj x y r e2=>yh j x y r e2
      .rw[yg hl,beq_eq_false_iff_ne.mpr hl,Bool.and_false]
     have rc:=SeqAt.RcAt.tuples M O G he;have l:=SeqAt.RcNeAt.tuples M O G he;rw[q]at rc l;exact Dq rc l λe=>by subst e;exact Dp I (n+1) (.tup h1 k1) (.tup h2 k2) b
    |lst h1 k1=>cases T;obtain⟨its,U,M,h⟩:=I.list h1;simp only[fu];exact⟨.list_tuple M.isList O G,.list_tuple M.isList O G,.list_tuple M.isList O G⟩
    |non=>cases T;simp only[fu];exact⟨.none_tuple O G,.none_tuple O G,.none_tuple O G⟩
    |bl=>cases T;simp only[fu];exact⟨.bool_tuple _ O G,.bool_tuple _ O G,.bool_tuple _ O G⟩
    |int=>obtain⟨t,rfl⟩:=T;simp only[fu];exact⟨.int_tuple _ _ O G,.int_tuple _ _ O G,.int_tuple _ _ O G⟩
    |str=>obtain⟨t,rfl⟩:=T;simp only[fu];exact⟨.str_tuple _ _ O G,.str_tuple _ _ O G,.str_tuple _ _ O G⟩
    |_=>simp at b
   |lst h2 k2=>
    cases a
    obtain⟨i,k,O,v⟩:=I.list h2;replace O:=O.isList;cases i1 with
    |lst h1 k1=>
     cases T
     obtain⟨its,U,M,h⟩:=I.list h1;replace M:=M.isList;rename_i m ws es o vs ds;have he:=zI (A:=A.in1) (p:=br n) u k1 k2 U k (by simpa using b) (by simpa using p2);have both:SeqAt.RcAt A s (.ref o) (.ref m) (fu (.lst ds) (.lst es))/\SeqAt.RcNeAt A s (.ref o) (.ref m) (!fu (.lst ds) (.lst es)):=by
      have hz:its.toArray.size=ds.length/\i.toArray.size=es.length:=by rw[vH,vH,<-U.length,<-k.length,k1.length,k2.length];simp
      by_cases hl:ds.length=es.length
      .have q:(List.range its.toArray.size).all (λj=>fu (ds.getD j .non) (es.getD j .non))=fu (.lst ds) (.lst es):=by
        rw[fu,hz.1];exact jZ _ hl λj x y r e2=>yh j x y r e2
       have hs:=(hz.1.trans hl).trans hz.2.symm;have rc:=SeqAt.RcAt.lists M O hs G he;have l:=SeqAt.RcNeAt.lists M O hs G he;rw[q]at rc l;exact⟨rc,l⟩
      .have hs:(its.toArray.size != i.toArray.size)=true:=by simp_all
       rw[fu,yg hl];exact⟨.lists_lengths M O hs G,.lists_lengths M O hs G⟩
     exact Dq both.1 both.2 λe=>by subst e;exact Dp I (n+1) (.lst h1 k1) (.lst h2 k2) b
    |tup h1 k1=>cases T;obtain⟨its,U,M,h⟩:=I.tuple h1;simp only[fu];exact⟨.tuple_list M O G,.tuple_list M O G,.tuple_list M O G⟩
    |non=>cases T;simp only[fu];exact⟨.none_list O G,.none_list O G,.none_list O G⟩
    |bl=>cases T;simp only[fu];exact⟨.bool_list _ O G,.bool_list _ O G,.bool_list _ O G⟩
    |int=>obtain⟨t,rfl⟩:=T;simp only[fu];exact⟨.int_list _ _ O G,.int_list _ _ O G,.int_list _ _ O G⟩
    |str=>obtain⟨t,rfl⟩:=T;simp only[fu];exact⟨.str_list _ _ O G,.str_list _ _ O G,.str_list _ _ O G⟩
    |_=>simp at b
   |_=>simp at f2 p2
@[simp] def dz:D->D->OB:=λx y=>if br 40 x=true/\br 40 y=true then some (.bl (fu x y),false)else none
@[simp] def wt:D->D->OB:=λx y=>if br 40 x=true/\br 40 y=true then some (.bl (!fu x y),false)else none
theorem cx (hu:X.A.units+40<cLine):dU X (compareOp .Eq) (rD X.K dz):=by
 intro ag s σ H x y v u Q I M O q;obtain⟨B,dx,a,d,b,G,T,U,e,q⟩:=q;unfold dz at e;split at e
 .rename_i hp;cases e
  exact(MI I 40 hu hp.1 hp.2 (T.mono G) (U.mono G) M O).1 _ _ _ _ ⟨.bl _,H,I,rfl,q.one G (.bl _)⟩
 simp_all
theorem vi (hu:X.A.units+40<cLine):dU X (compareOp .NotEq) (rD X.K wt):=by
 intro ag s σ H x y v u Q I M O q;obtain⟨B,dx,a,d,b,G,T,U,e,q⟩:=q;unfold wt at e;split at e
 .rename_i hp;cases e
  exact(MI I 40 hu hp.1 hp.2 (T.mono G) (U.mono G) M O).2.2 _ _ _ _ ⟨.bl _,H,I,rfl,q.one G (.bl _)⟩
 simp_all
end
section
variable {X:Cx}{a b e:Expr}{pos:Pos}
theorem Dr {K:Frag}{H:Hp}{vs:LV}{ds:LD}{i:Int}{d:D}(h:IsL K H vs ds)(e:pW ds i=some d):∃v,pW vs i=some v/\Is K H v d:=by
 unfold pW at e |-;rw[h.length];cases q:GD _ i with
 |none=>rw[q]at e;cases e
 |some j=>rw[q]at e;exact h.get e
@[simp] def bN:D->D->OB
 |.lst ds,.int i=>(pW ds i).map λd=>(d,false)
 |.tup ds,.int i=>(pW ds i).map λd=>(d,false)
 |.str z,.int i=>if z.length<=sizeLine then (pW z.cps.toList i).map λc=>(.str ⟨#[c]⟩,false)else none
 |_,_=>none
theorem Ur:GF X (rD X.K bN):=by
 intro O T ag s σ H x y v u Q I U f q hs;obtain⟨B,dx,k,d,b,G,g,j,e,q⟩:=q;cases g<;>try (cases e)
 all_goals (cases j<;>try (cases e))
 .simp only[bN]at e;split at e
  .rename_i hz;obtain⟨c,M,e2⟩:=oY e;cases e2
   exact BJ _ _ _ s σ H _ _ v u Q I U f ⟨_,_,c,rfl,rfl,hz,M,q.one G (.str _)⟩ hs
  simp_all
 .rename_i h hl i;obtain⟨c,M,e2⟩:=oY e;cases e2
  obtain⟨w,h1,h2⟩:=Dr hl M;exact GH _ _ _ s σ H _ _ v u Q I U f ⟨_,_,_,w,rfl,rfl,bw G h,h1,q.one G h2⟩ hs
 .rename_i h hl i;obtain⟨c,M,e2⟩:=oY e;cases e2
  obtain⟨w,h1,h2⟩:=Dr hl M;exact K3 _ _ _ s σ H _ _ v u Q I U f ⟨_,_,_,w,rfl,rfl,G.seq h,h1,q.one G h2⟩ hs
theorem aT (ha:JE X a fa)(hb:JE X b G)(hs:qQ b:=by intro _ _;rfl):JE X (.Subscript a b pos) (f2 bN fa G):=PE.to (GG Ur ha hb hs) λ_ _ _ h=>K7 h
abbrev FO:=Env->Option OI
def XA (K:Frag)(f:FO):TO:=λσ H Q=>∃(B:Hp)(ρ:Env)(o:OI),bc B H/\gy K B σ ρ/\f ρ=some o/\∀H',bc H H'->Q o H'
abbrev JO (X:Cx)(e:Option Expr)(f:FO):Prop:=PO X e (XA X.K f)
@[simp] noncomputable def m7:FO:=λ_=>some none
@[simp] noncomputable def lu (f:FE):FO:=λρ=>match f ρ with|some (.int i,_)=>some (some i)|_=>none
theorem lY:JO X none m7:=λag s σ H Q I h=>Ky _ s σ H Q I (by
 obtain⟨B,ρ,o,G,r,e,q⟩:=h;cases e
 exact q H (.refl H))
theorem lZ (h:JE X e f):JO X (some e) (lu f):=λag s σ H Q I q=>Kz h _ s σ H Q I (by
 obtain⟨B,ρ,o,G,r,e,q⟩:=q;unfold lu at e;split at e
 .rename_i i b' M;cases e
  refine⟨B,ρ,_,_,G,r,M,λv O N1 T i1 _=>?_⟩;cases i1
  exact⟨i,rfl,q O T.hh⟩
 simp_all)
def qJ (ds:LD)(lo hi:OI):LD:=(ds.drop (HT.eV ds.length 0 lo)).take (HT.eV ds.length ds.length hi - HT.eV ds.length 0 lo)
theorem yi {K:Frag}{H:Hp}{vs:LV}{ds:LD}{lo hi:OI}(h:IsL K H vs ds):IsL K H (vc vs lo hi) (qJ ds lo hi):=by
 unfold vc qJ;rw[h.length];exact(h.drop _).take _
theorem cn.to (h:cn X f r)(k:∀xs H Q,M xs H Q->r xs H Q):cn X f M:=λag s σ H xs us Q I G q=>h _ s σ H xs us Q I G (k xs H Q q)
variable {es:QD}{x:Str}{p:Pos}{id T:String}
theorem aA (hc:cn X (.builtin id) (Di X.K f))(hm:X.mg x=none)(hv:bootBuiltins x=some (.builtin id))(ha:JA X (e::es) fa)(O:Gl X x:=by rfl)(hn:x ≠ "__name__":=by decide)(G:(x == ("__debug__" : Str))=false:=by decide)
  (he:starEach (e::es) X.env=(false,eval e X.env)::starEach es X.env:=by rfl) (M:(backTo pos (starEach es X.env)).any (·.1)=false:=by rfl):JE X (.Call (.Name x p) (e::es) [] pos) (fA f fa):=PE.to (rj hc O hm hv ha hn G he M) λ_ _ _ h=>K8 h
theorem jB (hc:cn X (.type T) (Di X.K f))(hm:X.mg x=none)(hv:bootBuiltins x=some (.type T))(ha:JA X (e::es) fa)(O:Gl X x:=by rfl)(hn:x ≠ "__name__":=by decide)(G:(x == ("__debug__" : Str))=false:=by decide)
  (he:starEach (e::es) X.env=(false,eval e X.env)::starEach es X.env:=by rfl) (M:(backTo pos (starEach es X.env)).any (·.1)=false:=by rfl):JE X (.Call (.Name x p) (e::es) [] pos) (fA f fa):=PE.to (pi hc O hm hv ha hn G he M) λ_ _ _ h=>K8 h
@[simp] noncomputable def cH:LD->OB
 |[.lst ds]=>some (.int ds.length,false)
 |[.tup ds]=>some (.int ds.length,false)
 |[.str z]=>if z.length<=sizeLine then some (.int z.length,false)else none
 |_=>none
theorem cW:cn X (.builtin "len") (Di X.K cH):=by
 refine cn.to (cn.or xT xU) λxs H Q q=>?_;obtain⟨B,ds,d,b,G,i,e,q⟩:=q;cases i with
 |nil=>simp  at e
 |cons i1 i2=>
  cases i2 with
  |cons _ _=>cases i1<;>simp  at e
  |nil=>
   cases i1<;>try (simp  at e;done)
   .simp only[cH]at e;split at e
    .rename_i hz;cases e
     exact .inr ⟨_,rfl,hz,q.one G (.int _)⟩
    simp_all
   .rename_i h hl;cases e
    refine .inl ⟨_,_,rfl,.inr (bw G h),?_⟩;rw[hl.length];exact q.one G (.int _)
   .rename_i h hl;cases e
    refine .inl ⟨_,_,rfl,.inl (G.seq h),?_⟩;rw[hl.length];exact q.one G (.int _)
theorem gV (hm:X.mg x=none)(hv:bootBuiltins x=some (.type n))(G:Gl X x:=by rfl)(hn:x ≠ "__name__":=by decide)(hd:(x == ("__debug__" : Str))=false:=by decide):JE X (.Name x pos) (fC (.ty n)) :=
 PE.to (Km G hm hv (v:=.ty n) rfl hn hd) λ_ _ _ h=>EX (λ_=>.ty n) h
end
theorem zK (G:eU k A):A.units+40<cLine:=by have:=G.un;lia
section
variable {X:Cx}{a b e:Expr}{pos:Pos}{x:Str}{p:Pos}
theorem dq (h:∃u v,X.mg x=some u/\aX v u/\∀B,Is X.K B v d)(G:Gl X x:=by rfl)(hd:(x == ("__debug__" : Str))=false:=by decide):JE X (.Name x pos) (fC d):=by
 obtain⟨u,v,hm,r,i⟩:=h;exact KP G hm r i hd
@[simp] noncomputable def Rx:D->D->OB
 |.int i,.int j=>some (.int (i+j),false)
 |.str i,.str j=>if i.length+j.length<=sizeLine then some (.str (i++j),false)else none
 |_,_=>none
theorem KW:dU X (binaryOp .Add) (rD X.K Rx):=by
 refine jY  (rB Rp Ou) λx y H Q q=>?_;obtain⟨B,dx,G,d,b,M,O,T,e,q⟩:=q;refine⟨B,dx,G,d,b,M,O,T,?_,q⟩;cases dx<;>try (cases e)
 all_goals (cases G<;>try (done))
 all_goals simp_all[Rk]
@[simp] def mz:D->D->OB:=Rm
theorem mP:dU X (binaryOp .Mult) (rD X.K mz):=Rq
@[simp] def Hh:D->D->OB:=VY
theorem rE:dU X (compareOp .Lt) (rD X.K Hh):=Uk
@[simp] noncomputable def qR:D->D->OB
 |.int i,.int j=>some (.bl (decide (i<=j)),false)
 |.str i,.str j=>some (.bl (!decide (j.cps.toList<i.cps.toList)),false)
 |_,_=>none
theorem ir:dU X (compareOp .LtE) (rD X.K qR):=by
 refine jY  (rB Ul Rv) λx y H Q q=>?_;obtain⟨B,dx,G,d,b,M,O,T,e,q⟩:=q;refine⟨B,dx,G,d,b,M,O,T,?_,q⟩;cases dx<;>try (cases e)
 all_goals (cases G<;>try (done))
 all_goals simp_all[Rk]
@[simp] noncomputable def KY:D->OB
 |.int i=>some (.int (-i),false)
 |_=>none
theorem Ry:QG X (unaryOp .USub) (Uh X.K KY):=by
 intro ag s σ H x v Q I G q;obtain⟨B,dx,d,b,M,O,e,q⟩:=q;cases O<;>try (simp  at e;done)
 cases e
 exact NW _ s σ H _ v Q I G ⟨_,rfl,q.one M (.int _)⟩
@[simp] noncomputable def EY:D->D->Option Bool
 |.non,.non=>some true
 |_,.non=>some false
 |.bl a,.bl b=>some (a == b)
 |_,.bl _=>some false
 |_,_=>none
@[simp] def BS:D->D->OB:=λx y=>(EY x y).map λb=>(.bl b,false)
@[simp] def kg:D->D->OB:=λx y=>(EY x y).map λb=>(.bl (!b),false)
theorem Ds {K:Frag}{B:Hp}{x y:V}{v u:Value}{dx G:D}{k:Bool}(O:Is K B x dx)(T:Is K B y G)(M:aX x v)(U:aX y u)(e:EY dx G=some k):plainIs v u=true/\(v == u)=k:=by
 cases T<;>(first|(cases dx<;>simp  at e;done)|skip)
 all_goals (cases O)
 all_goals (first|(obtain⟨t,rfl⟩:=M)|cases M)
 all_goals (cases U)
 all_goals (simp only[EY,Option.some.injEq]at e;subst e)
 all_goals (first|exact⟨rfl,rfl⟩|skip)
 all_goals (rename_i c d;cases c<;>cases d<;>exact⟨rfl,rfl⟩)
theorem yj:dU X (compareOp .Is) (rD X.K BS):=by
 intro ag s σ H x y v u Q I G M q;obtain⟨B,dx,c,d,b,O,T,U,e,q⟩:=q;obtain⟨k,ek,e⟩:=oY e;cases e
 obtain⟨h1,h2⟩:=Ds T U G M ek;refine wpAny_is_plain h1 ⟨.bl k,H,I,by rw[h2];rfl,q.one O (.bl _)⟩
theorem qS:dU X (compareOp .IsNot) (rD X.K kg):=by
 intro ag s σ H x y v u Q I G M q;obtain⟨B,dx,c,d,b,O,T,U,e,q⟩:=q;obtain⟨k,ek,e⟩:=oY e;cases e
 obtain⟨h1,h2⟩:=Ds T U G M ek;refine wpAny_isNot_plain h1 ⟨.bl _,H,I,by rw[h2];rfl,q.one O (.bl _)⟩
@[simp] noncomputable def jk:D->Bool
 |.non=>true|.bl _=>true|.int _=>true|.str _=>true
 |_=>false
noncomputable def Kd (x:D)(ds:LD):Bool:=ds.any λy=>fu y x
@[simp] noncomputable def iu:D->Option LD
 |.lst ds=>some ds
 |.tup ds=>some ds
 |_=>none
@[simp] def rF:D->D->OB:=λx y=>(iu y).bind λds=>if jk x=true/\ds.all jk=true then some (.bl (Kd x ds),false)else none
@[simp] def gn:D->D->OB:=λx y=>(iu y).bind λds=>if jk x=true/\ds.all jk=true then some (.bl (!Kd x ds),false)else none
theorem rG {K:Frag}{B:Hp}{v:V}{d:D}(i:Is K B v d)(h:jk d=true):m5 v=true:=by
 cases i<;>first|rfl|(simp  at h)
theorem Us {K:Frag}{B:Hp}{v w:V}{d e:D}(i:Is K B v d)(j:Is K B w e)(h:jk d=true)(h':jk e=true):K5 v w=fu d e:=by
 cases i<;>(first|(simp  at h)|skip)
 all_goals (cases j<;>(first|(done)|skip))
 all_goals rfl
theorem zL {K:Frag}{B:Hp}:∀ {vs:LV}{ds:LD},IsL K B vs ds->ds.all jk=true->vs.all m5=true
 |_,_,.nil,_=>rfl
 |_,_,.cons i t,h=>by
  rw[all_cons,vC]at h;rw[all_cons,rG i h.1,zL t h.2];rfl
theorem Hi {K:Frag}{B:Hp}{v:V}{d:D}(j:Is K B v d)(hd:jk d=true):∀ {vs:LV}{ds:LD},IsL K B vs ds->ds.all jk=true->Tl v vs=Kd d ds
 |_,_,.nil,_=>rfl
 |_,_,.cons i t,h=>by
  rw[all_cons,vC]at h;have e:=Hi j hd t h.2;unfold Tl Kd at *;rw[any_cons,any_cons,e,Us i j h.1 hd]
theorem m8:dU X (compareOp .In) (rD X.K rF):=by
 refine jY EO λx y H Q q=>?_;obtain⟨B,dx,T,d,b,G,M,O,e,q⟩:=q;obtain⟨ds,es,e⟩:=oX e;split at e
 .rename_i hf;cases e
  cases O<;>simp  [iu]at es<;>try (cases es;done)
  .rename_i h hl;cases es
   exact⟨_,_,rfl,.inr (bw G h),rG M hf.1,zL hl hf.2,by rw[Hi M hf.1 hl hf.2];exact q.one G (.bl _)⟩
  .rename_i h hl;cases es
   exact⟨_,_,rfl,.inl (G.seq h),rG M hf.1,zL hl hf.2,by rw[Hi M hf.1 hl hf.2];exact q.one G (.bl _)⟩
 simp_all
theorem nU:dU X (compareOp .NotIn) (rD X.K gn):=by
 refine jY xS λx y H Q q=>?_;obtain⟨B,dx,T,d,b,G,M,O,e,q⟩:=q;obtain⟨ds,es,e⟩:=oX e;split at e
 .rename_i hf;cases e
  cases O<;>simp  [iu]at es<;>try (cases es;done)
  .rename_i h hl;cases es
   exact⟨_,_,rfl,.inr (bw G h),rG M hf.1,zL hl hf.2,by rw[Hi M hf.1 hl hf.2];exact q.one G (.bl _)⟩
  .rename_i h hl;cases es
   exact⟨_,_,rfl,.inl (G.seq h),rG M hf.1,zL hl hf.2,by rw[Hi M hf.1 hl hf.2];exact q.one G (.bl _)⟩
 simp_all
theorem cQ:bootBuiltins "len" = some (.builtin "len"):=PySem.boot_len
theorem bo:bootBuiltins "isinstance" = some (.builtin "isinstance"):=Z9
theorem Rz:bootBuiltins "min" = some (.builtin "min"):=Z9
theorem zM:bootBuiltins "all" = some (.builtin "all"):=Z9
theorem R0:bootBuiltins "int" = some (.type "int"):=Z9
theorem BU:bootBuiltins "bool" = some (.type "bool"):=Z9
theorem Hj:bootBuiltins "str" = some (.type "str"):=Z9
theorem rH:bootBuiltins "list" = some (.type "list"):=Z9
theorem gO:bootBuiltins "tuple" = some (.type "tuple"):=Z9
@[simp] noncomputable def XB:LD->OB
 |[.int i,.int j]=>some (.int (if j > i then j else i),false)
 |_=>none
@[simp] noncomputable def Ow:LD->OB
 |[.int i,.int j]=>some (.int (if j<i then j else i),false)
 |_=>none
theorem Hk {K:Frag}{B:Hp}{xs:LV}{i j:Int}(h:IsL K B xs [.int i,.int j]):xs=[.int i,.int j]:=by
 cases h with
 |cons h1 h2=>cases h1;cases h2 with|cons h3 h4=>cases h3;cases h4;rfl
theorem R1 (hc:X.calm=true:=by rfl):cn X (.builtin "min") (Di X.K Ow):=by
 refine cn.to (EL hc) λxs H Q q=>?_;obtain⟨B,ds,d,b,G,i,e,q⟩:=q;match ds,e with
 |[.int M,.int O],e=>cases e;exact⟨M,O,Hk i,q.one G (.int _)⟩
@[simp] noncomputable def jz:D->String
 |.non=>"NoneType" | .bl _=>"bool" | .int _=>"int" | .str _=>"str" | .ty _=>"type" | .tup _=>"tuple" | .lst _=>"list" | .dk _ _=>"dict" | .dt _ _=>"dict"
@[simp] noncomputable def EZ:D->Bool
 |.ty _=>true
 |_=>false
@[simp] noncomputable def Dt (t n:String):OB :=
 if n = "int" then some (.bl (t == "int" || t == "bool"),false)else if n = "bool" then some (.bl (t == "bool"),false)else if n = "str" then some (.bl (t == "str"),false)
 else if n = "list" then some (.bl (t == "list"),false)else if n = "tuple" then some (.bl (t == "tuple"),false)else none
@[simp] def bu:LD->OB
 |[d,.ty n]=>if EZ d=true then none else Dt (jz d) n
 |_=>none
theorem KZ {ag:AO}{σ:St}{H:Hp}{s:Shared}{A:Around}{E:QV}{Q:QV}{c:Value}{b:Bool}{v:V}{d:D}{u:Value}(I:Inv X ag σ H s)(i:Is X.K H v d)(hd:∀n,d≠.ty n)(G:aX v u)(e:PySem.W.kitOne X.K (.type (jz d)) c=some b)(h:∀tk,Q (.bool b) { s with toks:=tk }):
  wpAny (model X.prog X.w) A (call (.builtin "isinstance") [u,c]) Q E s:=by
 cases i with
 |non=>exact iB I G .non e h
 |bl y=>exact iB I G (.bl y) e h
 |int y=>exact iB I G (.int y) e h
 |str y=>exact iB I G (.str y) e h
 |ty n=>exact absurd rfl (hd n)
 |dk h1 _ _=>exact iB I G (.dK h1) e h
 |dt h1 _ _=>exact iB I G (.dT h1) e h
 |tup M _=>
  cases G
  obtain⟨its,_,⟨o,h1,h2,_⟩,_⟩:=I.tuple M;exact kia_one PySem.W.kitx_tuple I.kIn ⟨o,h1,h2⟩ e (λz=>nomatch z) h
 |lst hl _=>
  cases G
  obtain⟨its,_,⟨o,n,h1,h2,_⟩,_⟩:=I.list hl;exact kia_one PySem.W.kitx_list I.kIn ⟨o,h1,h2⟩ e (λz=>nomatch z) h
theorem Hl (K:Frag)(d:D)(hd:∀n,d≠.ty n):
  PySem.W.kitOne K (.type (jz d)) (.type "int")=some (jz d == "int" || jz d == "bool")/\PySem.W.kitOne K (.type (jz d)) (.type "bool")=some (jz d == "bool")/\PySem.W.kitOne K (.type (jz d)) (.type "str")=some (jz d == "str") /\
   PySem.W.kitOne K (.type (jz d)) (.type "list")=some (jz d == "list")/\PySem.W.kitOne K (.type (jz d)) (.type "tuple")=some (jz d == "tuple"):=by
 cases d<;>(first|exact absurd _ _|skip)
 all_goals (refine⟨?_,?_,?_,?_,?_⟩<;>kernel_rfl)
theorem b9:cn X (.builtin "isinstance") (Di X.K bu):=by
 intro ag s σ H xs us Q I M q;obtain⟨B,ds,d,b,G,i,e,q⟩:=q;cases i with
 |nil=>cases e
 |cons i1 i=>cases i with
 |nil=>cases e
 |cons i2 i=>
  cases i2<;>try (cases e)
  cases i<;>try (cases e)
  rename_i dx n;obtain⟨c,f,rfl,O,T⟩:=G7 M;cases T
  simp only[bu]at e;split at e
  .cases e
  .rename_i U;have hd:∀n,dx≠.ty n:=λn z=>by subst z;exact U rfl
   obtain⟨k1,k2,k3,k4,k5⟩:=Hl X.K dx hd;have gz:∀ {k:Bool},PySem.W.kitOne _ _ (.type n)=some k->Fin X.K B H _ _ Q->wpAny _ X.A _ (EP X _ σ Q) X.xe s:=λ{k} hk q=>
    KZ I (i1.mono G) hd O hk λtk=>⟨.bl k,H,I.tok tk,rfl,q.one G (.bl k)⟩
   unfold Dt at e;grind
@[simp] def Hm (f:FE):FA:=λρ=>(f ρ).bind λx=>iu x.1
theorem Du (h:JE X e f):JI X tg e (Hm f):=by
 intro ag s σ H R I q;obtain⟨B,ρ,ds,U,r,c,q⟩:=q;obtain⟨x,ex,es⟩:=oX c;obtain⟨xd,j⟩:=x;cases xd<;>simp  [iu]at es<;>try (cases es;done)
 .cases es
  refine NM h _ s σ H R I ⟨B,ρ,_,_,U,r,ex,λv T N1 O i1 _=>?_⟩;cases i1 with
  |@tup a vs _ M hl=>
   refine⟨a,rfl,⟨vs,bw O.nh M⟩,q _ T N1 O λi H2 s2=>⟨λd ed=>?_,λG=>⟨vs,bw s2 M,by rw[hl.length];exact G⟩⟩⟩;obtain⟨v,ev,iv⟩:=hl.get ed;refine⟨⟨vs,v,bw s2 M,ev⟩,λy g hy=>?_⟩;obtain⟨rfl,hy⟩:=hy;have:=hy vs (bw s2 M);rw[ev]at this;cases this;exact⟨N1,.refl s2,iv⟩
 .cases es
  refine Kq h _ s σ H R I ⟨B,ρ,_,_,U,r,ex,λv T N1 O i1 _=>?_⟩;cases i1 with
  |@lst a vs _ M hl=>
   refine⟨a,rfl,⟨vs,O.nh.seq M⟩,q _ T N1 O λi H2 s2=>⟨λd ed=>?_,λG=>⟨vs,s2.seq M,by rw[hl.length];exact G⟩⟩⟩;obtain⟨v,ev,iv⟩:=hl.get ed;refine⟨⟨vs,v,s2.seq M,ev⟩,λy g hy=>?_⟩;obtain⟨rfl,hy⟩:=hy;have:=hy vs (s2.seq M);rw[ev]at this;cases this;exact⟨N1,.refl s2,iv⟩
noncomputable def ia (lo:Int)(n:Nat):LD:=(List.range n).map λ(k:Nat)=>.int (lo+(k:Int))
theorem Hn {K:Frag}{B:Hp}(lo:Int)(n:Nat):pq K (Tj lo n) B (ia lo n):=by
 intro i H s;unfold ia;refine⟨λd ed=>?_,λhl=>by rw[vI,length_range]at hl;exact hl⟩;rw[vA]at ed;obtain⟨k,ek,ed⟩:=oY ed;have hk:=vV ek;obtain⟨G,hk⟩:=hk;rw[length_range]at G;rw[List.getElem_range]at hk;subst hk;subst ed;refine⟨G,λx H' hy=>?_⟩;obtain⟨rfl,rfl⟩:=hy;exact⟨B,.refl s,.int _⟩
@[simp] def fj (f:FE):FA:=λρ=>match f ρ with
 |some (.int j,_)=>if -1000<=j/\j<=1000 then some (ia 0 j.toNat)else none
 |_=>none
theorem jC (hm:X.mg "range" = none)(h:JE X a f)(M:Gl X "range":=by rfl)(hs:starEach [a] X.env=[(false,eval a X.env)]:=by rfl):PI X tg (.Call (.Name "range" p) [a] [] pos) (Tn X.K (fj f)):=by
 refine PI.to (EI M hm (ak h am hs) hs) λσ H R q=>?_;obtain⟨B,ρ,ds,O,r,G,q⟩:=q;unfold fj at G;split at G
 .rename_i j b' T;split at G
  .cases G
   refine⟨B,ρ,[.int j],O,r,by simp[T],λvs U N1 c i1=>?_⟩;cases i1 with
   |cons i1 i2=>
    cases i1;cases i2
    exact⟨j,rfl,M9,M9,q _ U N1 c λ_=>Hn 0 _⟩
  simp_all
 simp_all
theorem rJ (hm:X.mg "range" = none)(h:JE X a f)(G:Gl X "range":=by rfl)(hs:starEach [a] X.env=[(false,eval a X.env)]:=by rfl):JI X tg (.Call (.Name "range" p) [a] [] pos) (fj f) :=
 PI.to (jC hm h G hs) λσ H R ⟨B,ρ,ds,M,r,O,q⟩=>⟨B,ρ,ds,M,r,O,λJ H' N x h=>q J H' N x (h _)⟩
end
def cB (K:Frag)(x:Str)(st:Stmt):Prop:=∃(f:Addr)(fd:FuncData),PJ K x x st f fd/\nsIn K mainGlobals x=some (some (.ref f))
theorem def_mk {K:Frag}{x:Str}{st:Stmt}{f:Addr}{oc:Value}{od an:Option Addr}{mv:Array (Option Value)}{kV doc pm dv ct:Value}(a:nsIn K mainGlobals x=some (some (.ref f)))
  (l:K.lookup f=some ⟨oc,od,.func (fnOf x x (dZ st) (cc st) (aO st) .none kV doc pm an dv ct),mv⟩) (c:PySem.W.codeIn K dv x=true) (k:PySem.W.keepIn K (.ref f)=true):cB K x st:=⟨f,_,Od l c k,a⟩
section
variable {P:Program}{w:World}{K:Frag}{mg:SV}{base:Heap}
theorem cB.fn {x:Str}{st:Stmt}{N ps:LS}{k:Nat}{g:FS}{h:Heap}(F:cB K x st)(X:K.In h)(G:h.Ns mainGlobals mg)(S:FnScope N ps (aO st))
  (M:∀(kV doc pm:Value)(an:Option Addr)(dv ct:Value)(us:LU),us.length=ps.length->bindArgs (fnOf x x (dZ st) (cc st) (aO st) .none kV doc pm an dv ct) ⟨us,[]⟩=pure (ps.zip us))
  (hb:∀(f:Addr)(dv:Value)(A:Around)(outer:List PySem.Env)(s:Shared)(H:Hp)(E:XK),eU k (A.deeper (envOfC x (aO st) s.heap.objs.size f dv))->wm (ph zi P w K mg base N x (aO st) f dv A outer s H E).nox (cc st) g):
  Fn P w K mg base (k+1) x (aC g ps.length (N.length - ps.length)):=by
 obtain⟨f,fd,O,a⟩:=F;exact⟨f,fd,ps,Rw O S (hb f),mg_of X G a,O.kp,O.binds M⟩
end
def R3 (H:Hp):Prop:=∀b,H b=none\/(∃o xs,H b=some (.frz o (.lst xs)))\/∃q,H b=some (.tbl q)
noncomputable def rK (M:List (Addr×Str))(G:Hp):Hp:=λb=>match M.lookup b with|some q=>some (.tbl q)|none=>G b
theorem gW (e:M.lookup b=some q):rK M G b=some (.tbl q):=by unfold rK;rw[e]
theorem jD (e:M.lookup b=none):rK M G b=G b:=by unfold rK;rw[e]
theorem Fa {P:Program}{w:World}{K:Frag}{mg mb:SV}{k:Nat}{fa a:Addr}{fd:FuncData}{x:Str}{sp:Sp}{M:Shared}{vs:LU}{ns:LI}(O:List (Addr×Str))
  (p:∀b q,O.lookup b=some q->M.heap.get? b=some (PySem.W.tabObj #[])/\isCodeTable M.heap b) (E:PySem.W.noTabs K=true)
  (l:K.In M.heap) (t:M.heap.Ns mainGlobals mg) (hb:M.heap.Ns builtinsNs mb) (I:∀x:Str,x ≠ "__name__"->mb x=bootBuiltins x) (J:M.heap.NoLimit)
  (L:∃bm ob,mg "__builtins__" = some (.ref bm)/\bm≠builtinsNs/\M.heap.get? bm=some ob/\ob.cls=.type "module"/\ob.dict=some builtinsNs/\ob.data=.plain) (N:M.gens=#[])
  (ha:M.heap.get? a=some { cls:=.type "list",data:=.seq vs.toArray }) (hi:IntsAre vs ns) (hl:ns.length<=sizeLine) (Q:eU k callerA)
  (F:∀base:Heap,K.In base->base.Ns mainGlobals mg->uM P w K mg base zi k fa fd [x] sp) (R:∀(s:Shared)(u:Value),BindsTo s fd ⟨[u],[]⟩ [(x,u)])
  (S:∀H:Hp,(∀b q,O.lookup b=some q->H b=some (.tbl q))->ii K H a (ns.map V.int)->sp [.ref a] H (λv _=>v=.bl true) λ_ _ _=>False):
  codeAny (model P w) callerA (.call (.ref fa) ⟨[.ref a],[]⟩) (λr s'=>r=.ok (.ret (.bool true))/\OldK M.heap s'.heap/\s'.os=M.os/\AllBare s'.gens) M:=by
 have y:=L2.iC hi;have Ze:=hi.length;have A:∀H:Hp,R3 H->(∀b q,O.lookup b=some q->H b=some (.tbl q))->ii K H a (ns.map V.int)->mw P w H M.heap->(∀b q,H b=some (.tbl q)->M.heap.get? b=some (PySem.W.tabObj #[])/\isCodeTable M.heap b) ->
   (∀b o u,H b=some (.frz o u)->b=a)->(∀b o u,H b=some (.frz o u)->K.lookup b=none) ->
   codeAny (model P w) callerA (.call (.ref fa) ⟨[.ref a],[]⟩) (λr s'=>r=.ok (.ret (.bool true))/\OldK M.heap s'.heap/\s'.os=M.os/\AllBare s'.gens) M:=by
  intro H i X Y hok B hB Z;have noA:∀ {b:Addr}{o:Obj},M.heap.get? b=some o->(o.cls≠.none)->(o.cls≠.type "list")->H b=none:=λ{b o} e d d'=>by
   rcases i b with q|⟨ob,xs,q⟩|⟨u,q⟩
   .exact q
   .grind
   simp_all<;>lia
  have Zf:∀ {b:Addr}{o:Obj}{es:Array DictEntry}{j:Nat},M.heap.get? b=some o->o.data=.dict es j->H b=none:=λ{b o es j} e d=>by
   rcases i b with q|⟨ob,xs,q⟩|⟨u,q⟩
   .exact q
   .grind
   grind
  have U:∀ {b:Addr}{m:SV},M.heap.Ns b m->(zm M.heap H).Ns b m:=λ{b m} ⟨o,es,j,e,d,r⟩=>⟨o,es,j,rf e (Zf e d),d,r⟩;have C:K.In (zm M.heap H):=λb o e=>rf (l b o e) (by
   rcases i b with q|⟨ob,xs,q⟩|⟨u,q⟩
   .exact q
   .rw[Z b _ _ q]at e;cases e
   .have z:=(B b u q).1;rw[l b o e]at z;cases z
    have:=all_eq_true.mp E _ (PySem.W.mem_of_lookupK e);simp at this)
  have hM:Mod K mg (zm M.heap H):=⟨C,U t,⟨mb,U hb,I⟩,let ⟨mc,h1,h2⟩:=J;⟨mc,U h1,h2⟩,by
   grind[rf]⟩
  have e0:Env0 P w K mg (zm M.heap H) callerA [] M H:=⟨rfl,hM,λb o e=>Kk e,le_of_eq (EF _ _),trivial,λb hb=>absurd (show b∈([]:List Addr)from hb) N9,hok,.of_eq N⟩;refine codeAny_mono ((F _ C (U t)).run callerA [] M H ⟨[.ref a],[]⟩ [.ref a] [.ref a] _ _ Q e0 (R M (.ref a)) (.cons rfl .nil) (S H X Y)) λr s' h=>?_;cases r with
  |error e=>exact False.elim h
  |ok fl=>
   cases fl with
   |next=>exact False.elim h
   |brk=>exact False.elim h
   |cont=>exact False.elim h
   |ret u=>
    obtain⟨v,H',os,bare,un,D,r',q⟩:=h;have f:v=.bl true:=q;subst f;obtain rfl:u=Value.bool true:=r';have kp :=λb o n e=>un.keep b o e n (by intro z;exact absurd (show b∈([]:List Addr)from z) N9) N9;refine⟨rfl,⟨λb o e=>?_,λb o e=>un.there b o e N9⟩,os,bare⟩;rcases i b with z|⟨ob,xs,z⟩|⟨u,z⟩
    .exact .inl (kp b o z e)
    .have z2:=un.frzs b ob _ z;obtain⟨g,_⟩:=hok b _ z;obtain⟨e2,_⟩:=D b _ z2;rw[e]at g;cases g;exact .inl e2
    .obtain⟨g,e2⟩:=B b u z;rw[e]at g;cases g;obtain⟨ps,e3,_⟩:=D b _ (un.tbls b u z);exact .inr (.inl ⟨e2,rfl,#[],ps,rfl,by simpa using e3⟩)
 have PL:∀q,O.lookup a≠some q:=λq z=>by
  simp_all
 have ta:O.lookup a=none:=by
  cases z:O.lookup a with
  |none=>rfl
  |some q=>exact absurd z (PL q)
 have S7:∀(G:Hp) b q,O.lookup b=some q->bP P w (rK O G) M.heap b (.tbl q):=λG b q z=>⟨#[],(p b q z).1,trivial,λpos cv c=>by cases c⟩;cases hk:K.lookup a with
 |some o=>
  have e:=l a o hk;rw[ha]at e;cases e
  refine A (rK O λ_=>none) (λb=>?_) (λb q z=>gW z) (.inr ⟨_,vs.toArray,_,hk,rfl,rfl,rfl,by simp_all,by simpa using y⟩) (λb u z=>?_) (λb q z=>?_) (λb o u z=>?_) λb o u z=>?_
  all_goals cases T:O.lookup b with
   |none=>first|exact .inl (jD T)|(rw[jD T]at z;cases z)
   |some f=>first|exact .inr (.inr ⟨f,gW T⟩)|(rw[gW T]at z;cases z;done)|(rw[gW T]at z;grind)
 |none=>
  refine A (rK O λb=>if b=a then some _ else none) (λb=>?_) (λb q z=>gW z) (.inl (.inr ⟨{ cls:=.type "list",data:=.seq vs.toArray },by rw[jD ta,if_pos rfl]⟩)) (λb u z=>?_) (λb q z=>?_) (λb o u z=>?_) λb o u z=>?_
  all_goals cases T:O.lookup b with
   |some f=>first|exact .inr (.inr ⟨f,gW T⟩)|(rw[gW T]at z;cases z;done)|(rw[gW T]at z;cases z;first|exact S7 _ b _ T|exact p b _ T)
   |none=>
    first
    |rw[jD T]at z
    |rw[jD T]
    by_cases hb:b=a
    .first
     |rw[if_pos hb]at z
     |rw[if_pos hb]
     first
     |exact .inr (.inl ⟨_,_,rfl⟩)
     | (cases z;subst hb;exact⟨ha,by rw[vI];exact hl,vs,_,y,ha⟩)
     |exact hb
     | (rw[hb];exact hk)
     |cases z
    .simp_all
noncomputable def yk (L:List (Str×Option (Addr×Addr))):List (Addr×Str):=L.filterMap λp=>p.2.map λq=>(q.2,vh p.1)
structure re (K:Frag)(L:List (Str×Option (Addr×Addr))):Prop where
 names:L=nM.map λx=>(x,PySem.W.tabIn K x)
 apart:((yk L).map (·.1)).Nodup
 none:PySem.W.noTabs K=true
theorem m9 {α G:Type}[BEq α][LawfulBEq α]:∀ {l:List (α×G)}{a:α}{b:G},(l.map (·.1)).Nodup->(a,b)∈l->l.lookup a=some b
 | (c,d)::l,a,b,nd,h=>by
  rw[lookup_cons];rcases vP h with e|h
  .cases e;simp
  .have ne:a≠c:=λz=>(nodup_cons.mp nd).1 (by grind);rw[show(a == c)=false by simpa using ne];exact m9 (nodup_cons.mp nd).2 h
theorem lw {α G:Type}[BEq α][LawfulBEq α]:∀ {l:List (α×G)}{a:α}{b:G},l.lookup a=some b->(a,b)∈l
 | (c,d)::l,a,b,h=>by
  rw[lookup_cons]at h;cases e:a == c with
  |true=>simp_all
  |false=>rw[e]at h;exact mZ _ (lw h)
theorem re.tb {K:Frag}{L:List (Str×Option (Addr×Addr))}(F:re K L){H:Hp}(h:∀b q,(yk L).lookup b=some q->H b=some (.tbl q)):Tb K H:=λx hx c P e=>by
 refine h P _ (m9 F.apart ?_);rw[F.names];exact mem_filterMap.mpr ⟨(x,PySem.W.tabIn K x),uS ⟨x,hx,rfl⟩,by rw[e];rfl⟩
theorem tab_yes {K:Frag}{x:Str}{f c P:Addr}{oc M:Value}{od O:Option Addr}{mv G:Array (Option Value)}{fd:FuncData}{vs:AV}(T:nsIn K mainGlobals x=some (some (.ref f)))(e2:K.lookup f=some ⟨oc,od,.func fd,mv⟩)(U:fd.code=.ref c)
  (a:K.lookup c=some ⟨M,O,.fields vs,G⟩) (b:vs[11]? = some (.ref P)):PySem.W.tabIn K x=some (c,P):=by simp_all[PySem.W.tabIn]
theorem tabs_fit {K:Frag}{G M O T U:Option (Addr×Addr)}(h0:PySem.W.tabIn K "in_order" = G)(h1:PySem.W.tabIn K "has_seal" = M)(h2:PySem.W.tabIn K "is_first_death" = O)(h3:PySem.W.tabIn K "bases_by" = T)(h4:PySem.W.tabIn K "as_heard" = U)
  (a:((yk [("in_order",G),("has_seal",M),("is_first_death",O),("bases_by",T),("as_heard",U)]).map (·.1)).Nodup) (nt:PySem.W.noTabs K=true):re K [("in_order",G),("has_seal",M),("is_first_death",O),("bases_by",T),("as_heard",U)] :=
 ⟨by subst h0;subst h1;subst h2;subst h3;subst h4;rfl,a,nt⟩
theorem cB.law {P:Program}{w:World}{K:Frag}{mg:SV}{x y:Str}{st:Stmt}{N:LS}{k:Nat}{g:FS}{h:Heap}{fa:Addr}(F:cB K x st)(X:K.In h)(G:h.Ns mainGlobals mg)(M:mg x=some (.ref fa))(S:FnScope N [y] (aO st))
  (O:∀(kV doc pm:Value)(an:Option Addr)(dv ct:Value)(u:Value),bindArgs (fnOf x x (dZ st) (cc st) (aO st) .none kV doc pm an dv ct) ⟨[u],[]⟩=pure [(y,u)])
  (hb:∀(base:Heap),K.In base->base.Ns mainGlobals mg->∀(f:Addr)(dv:Value)(A:Around)(outer:List PySem.Env)(s:Shared)(H:Hp)(E:XK),eU k (A.deeper (envOfC x (aO st) s.heap.objs.size f dv))->wm (ph zi P w K mg base N x (aO st) f dv A outer s H E).nox (cc st) g):
  ∃fd:FuncData,(∀(s:Shared)(u:Value),BindsTo s fd ⟨[u],[]⟩ [(y,u)])/\∀base:Heap,K.In base->base.Ns mainGlobals mg->uM P w K mg base zi (k+1) fa fd [y] (Hg K (aC g 1 (N.length - 1))):=by
 obtain⟨f,fd,T,a⟩:=F;have e:=M.symm.trans (mg_of X G a);cases e
 refine⟨fd,λs u=>?_,λbase U b=>Rw T S (hb _ U b _)⟩;obtain⟨oc,od,kV,doc,pm,an,dv,ct,mv,rfl,c,d⟩:=T.ex;exact .of_eq (O kV _ pm an _ ct u)
section
variable {X:Cx}{a b e:Expr}{pos:Pos}{x:Str}{p:Pos}
@[simp] noncomputable def R4:D->D->OB
 |.lst xs,.lst ys=>if xs.length+ys.length<=sizeLine then some (.lst (xs++ys),true)else none
 |_,_=>none
theorem Ox:dU X (binaryOp .Add) (rD X.K R4):=by
 intro ag s σ H x y v u Q I k m q;obtain⟨B,dx,C,d,bb,T,n,r,O,q⟩:=q;cases n<;>try (cases O;done)
 all_goals (cases r<;>try (cases O;done))
 rename_i l vs ds h hl t ws es h' M;simp only[R4]at O;split at O
 .rename_i hz;cases O
  cases k
  cases m
  obtain⟨its,U,w,D⟩:=I.list (T.seq h);obtain⟨G,c,p2,E⟩:=I.list (T.seq h');obtain⟨⟨J,d1,L,s1⟩,f,z,n1,k1⟩:=w.isList;obtain⟨⟨c2,d2,N,s2⟩,g,e2,n2,k2⟩:=p2.isList;subst z;subst k1;subst e2;subst k2;have hsz:its.toArray.size+G.toArray.size<=sizeLine:=by
   rw[vH,vH,<-U.length,<-c.length,hl.length,M.length];exact hz
  have A:its.toArray++G.toArray=(its++G).toArray:=N9
  refine concat_meets ⟨_,f,rfl⟩ ⟨_,g,rfl⟩ noFill_list_add seq_list_add PySem.F.slot_list_add PySem.F.entry_list_add (PySem.F.args_list_add_2 _ _) (list_addW l t its.toArray G.toArray n1 n2 d1 d2 s1 s2 hsz) ⟨f,g,?_⟩;rw[A];have i:=Ext.laid (o:=.lst (vs++ws)) T I.fresh;have j:=(hl.append M).mono i.bn;exact⟨.ref _,_,I.lnew  (U.append c) (by rw[uZ,hl.length,M.length];exact hz),rfl,q _ _ _ i (.lst (ii.of a8) j) λ_=>⟨_,_,_,rfl,rfl,I.fresh,a8,j⟩⟩
 simp_all
@[simp] noncomputable def R5:D->D->OB
 |.tup xs,.tup ys=>if xs.length+ys.length<=sizeLine/\xs.isEmpty=false then some (.tup (xs++ys),false)else none
 |_,_=>none
theorem Oy:dU X (binaryOp .Add) (rD X.K R5):=by
 refine jY K0 λx y H Q q=>?_;obtain⟨B,dx,g,d,bb,O,U,c,M,q⟩:=q;cases U<;>try (cases M)
 all_goals (cases c<;>try (cases M))
 rename_i l vs ds h hl f ws es h' G;simp only[R5]at M;split at M
 .cases M
  have l1:=hl.length;have l2:=G.length;refine⟨l,f,vs,ws,rfl,rfl,bw O h,bw O h',λz=>?_,M9,λz=>?_,λ_ pp hp=>?_⟩
  .grind
  .subst z;cases G
   rw[uQ]at q;exact q.one O (.tup h hl)
  .have T:=Ext.laid (o:=.tup (vs++ws)) O hp;exact q _ _ _ T (.tup (jw.of a8) ((hl.append G).mono T.bn)) N9
 simp_all
@[simp] noncomputable def Ut:D->D->OB
 |.bl i,.int j=>some (.int ((if i=true then 1 else 0)+j),false)
 |.int i,.bl j=>some (.int (i+b2i j),false)
 |_,_=>none
theorem Oz:dU X (binaryOp .Add) (rD X.K Ut):=by
 intro ag s σ H x y v u Q I M O q;obtain⟨B,dx,f,d,bb,T,U,c,G,q⟩:=q;cases U<;>try (cases G)
 all_goals (cases c<;>try (cases G;done))
 .cases G
  cases M
  obtain⟨t,rfl⟩:=O;exact IntBool.add_bool_int ⟨.int _,H,I.tok _,⟨_,rfl⟩,q.one T (.int _)⟩
 .cases G
  exact EK _ s σ H _ _ v u Q I M O ⟨_,_,rfl,rfl,q.one T (.int _)⟩
@[simp] noncomputable def cO:D->D->OB
 |.int i,.int j=>some (.int (i+j),false)
 |.str i,.str j=>if i.length+j.length<=sizeLine then some (.str (i++j),false)else none
 |.lst xs,.lst ys=>if xs.length+ys.length<=sizeLine then some (.lst (xs++ys),true)else none
 |.tup xs,.tup ys=>if xs.length+ys.length<=sizeLine/\xs.isEmpty=false then some (.tup (xs++ys),false)else none
 |.bl i,.int j=>some (.int ((if i=true then 1 else 0)+j),false)
 |.int i,.bl j=>some (.int (i+b2i j),false)
 |_,_=>none
theorem ca:dU X (binaryOp .Add) (rD X.K cO):=by
 refine jY  (rB KW (rB Ox (rB Oy Oz))) λx y H Q q=>?_;obtain⟨B,dx,G,d,bb,M,O,T,U,q⟩:=q;refine⟨B,dx,G,d,bb,M,O,T,?_,q⟩;cases dx<;>try (cases U)
 all_goals (cases G<;>try (done))
 all_goals simp_all[Rk]
@[simp] noncomputable def Uu:D->Option Bool
 |.bl b=>some b
 |_=>none
def ym:LD->Option (List Bool)
 |[]=>some []
 |d::ds=>(Uu d).bind λb=>(ym ds).map (b :: ·)
@[simp] theorem R6:ym []=some []:=rfl
@[simp] theorem Qi (d:D)(ds:LD):ym (d::ds)=(Uu d).bind λb=>(ym ds).map (b :: ·):=rfl
theorem yn {K:Frag}{B:Hp}:∀ {vs:LV}{ds:LD}{bs:List Bool}{its:LU},L2.bg vs its->IsL K B vs ds->ym ds=some bs->its=bs.map Value.bool
 |_,_,_,_,.nil,.nil,e=>by cases e;rfl
 |_,_,_,_,.cons r M,.cons i O,e=>by
  obtain⟨b,G,e⟩:=oX e;obtain⟨bs,e2,e⟩:=oY e;subst e;cases i<;>simp  [Uu]at G<;>try (cases G;done)
  cases G
  cases r
  rw[yn M O e2];rfl
@[simp] def BV:LD->OB
 |[.lst ds]=>(ym ds).map λbs=>(.bl (bs.all id),false)
 |_=>none
@[simp] def Ho:LD->OB
 |[.lst ds]=>(ym ds).map λbs=>(.bl (bs.any id),false)
 |_=>none
theorem zN (hc:X.calm=true:=by rfl):cn X (.builtin "all") (Di X.K BV):=by
 intro ag s σ H xs us Q I k q;obtain⟨B,ds,d,bb,g,i,G,q⟩:=q;cases i with
 |nil=>cases G
 |cons i1 i=>
  cases i with
  |cons _ _=>cases i1<;>cases G
  |nil=>
   cases i1<;>try (cases G;done)
   rename_i l vs es h hl;obtain⟨bs,m,G⟩:=oY G;cases G
   obtain⟨y,rfl,n⟩:=ij k;cases n
   obtain⟨its,r,T,z⟩:=I.list (g.seq h);have ei:=yn r hl m;have U:l<s.heap.objs.size:=by obtain⟨_,M,_⟩:=T.isList;exact vX M
   refine call_all_walk (wpAny_pyIter_list T.isList ⟨_,_,_,_,_,_,λj=>(bs[j]?).getD true,rfl,Walks.list (A:=X.A.in1) (I.ok.hd hc) _ l (vS U) _,⟨⟨_,vY _ rfl,rfl,rfl⟩,T.isList.push _⟩,λj v s' C D t f=>?_,λh' tk hk=>?_⟩)
   .have O :=by simpa using t
    rw[ei,vA]at O;obtain⟨c,u,e2⟩:=oY O;subst e2;dsimp only at f;rw[u]at f;exact wpAny_truthy_bool f
   .have w:((List.range its.toArray.size).all λj=>(bs[j]?).getD true)=bs.all id:=by
     simp_all[LSm.range_all]
    rw[w];refine⟨.bl _,H,I.kept λc o M=>?_,rfl,q.one g (.bl _)⟩;exact hk c o (λhm=>by rw[uT hm]at M;exact Nat.lt_irrefl _ (vX M)) (vZ _ M)
theorem MJ (hc:X.calm=true:=by rfl):cn X (.builtin "any") (Di X.K Ho):=by
 intro ag s σ H xs us Q I k q;obtain⟨B,ds,d,bb,g,i,G,q⟩:=q;cases i with
 |nil=>cases G
 |cons i1 i=>
  cases i with
  |cons _ _=>cases i1<;>cases G
  |nil=>
   cases i1<;>try (cases G;done)
   rename_i l vs es h hl;obtain⟨bs,m,G⟩:=oY G;cases G
   obtain⟨y,rfl,n⟩:=ij k;cases n
   obtain⟨its,r,T,z⟩:=I.list (g.seq h);have ei:=yn r hl m;have U:l<s.heap.objs.size:=by obtain⟨_,M,_⟩:=T.isList;exact vX M
   refine call_any_walk (wpAny_pyIter_list T.isList ⟨_,_,_,_,_,_,λj=>(bs[j]?).getD false,rfl,Walks.list (A:=X.A.in1) (I.ok.hd hc) _ l (vS U) _,⟨⟨_,vY _ rfl,rfl,rfl⟩,T.isList.push _⟩,λj v s' C D t f=>?_,λh' tk hk=>?_⟩)
   .have O :=by simpa using t
    rw[ei,vA]at O;obtain⟨c,u,e2⟩:=oY O;subst e2;dsimp only at f;rw[u]at f;exact wpAny_truthy_bool f
   .have w:((List.range its.toArray.size).any λj=>(bs[j]?).getD false)=bs.any id:=by
     simp_all[LSm.range_any]
    rw[w];refine⟨.bl _,H,I.kept λc o M=>?_,rfl,q.one g (.bl _)⟩;exact hk c o (λhm=>by rw[uT hm]at M;exact Nat.lt_irrefl _ (vX M)) (vZ _ M)
theorem ML:bootBuiltins "any" = some (.builtin "any"):=Z9
end
noncomputable def Tp (z:Str):It:=⟨λi _=>i<z.cps.size,λi H v H'=>H'=H/\∃c,z.cps[i]? = some c/\v=.str ⟨#[c]⟩,λi _=>z.cps.size<=i⟩
theorem zO {P:Program}{w:World}{K:Frag}{tg:Expr}(z:Str)(t:Tok)(it:Addr):Turn P w K tg (Tp z) [it] it (λi h=>h.IsStrIter it "str_ascii_iterator" z t i) where
 mem:=mem_singleton.mpr rfl
 obj:=λi h st b hb=>by
  have U:=uT hb;obtain⟨o,M,_,d1⟩:=st;simp_all
 keep:=λi h h' st k=>let ⟨o,M,r⟩:=st;⟨o,k it (mem_singleton.mpr rfl) o M,r⟩
 item:=by
  intro X a hw d hc i ag s σ H E I hf st O;have T:i<z.cps.size:=O;obtain⟨f0,f1,f2,f3,f4,f5⟩:=hf it (mem_singleton.mpr rfl);refine wpAny_pyNext_ascii_item st (c:=z.cps[i]) (by simp ) λh' G e=>?_;obtain⟨o,M,f,d1⟩:=id G;exact⟨_,rfl,v0  M f d1 V9 ⟨.str _,H,I.turned (λb o hb e2=>(e.2 b hb).trans e2) f0 f1 f3 f4 f5,⟨_,rfl⟩,⟨rfl,_,by simp ,rfl⟩,G,λb hb=>(hf b hb).1⟩⟩
 done:=by
  intro X a hw d hc i ag s σ H E I hf st O;have T:z.cps.size<=i:=O;obtain⟨f0,f1,f2,f3,f4,f5⟩:=hf it (mem_singleton.mpr rfl);exact wpAny_pyNext_ascii_end (I.ok.hd hc) st S9 λh' U=>⟨rfl,I.turned  (λb o hb e2=>U b o hb e2) f0 f1 f3 f4 f5⟩
 self:=λ_ _ _ _ _ st h=>wpAny_pyIter_striter_ascii st h
theorem zP {P:Program}{w:World}{K:Frag}{tg:Expr}(z:Str)(t:Tok)(it:Addr):Turn P w K tg (Tp z) [it] it (λi h=>h.IsStrIter it "str_iterator" z t i) where
 mem:=mem_singleton.mpr rfl
 obj:=λi h st b hb=>by
  have U:=uT hb;obtain⟨o,M,_,d1⟩:=st;simp_all
 keep:=λi h h' st k=>let ⟨o,M,r⟩:=st;⟨o,k it (mem_singleton.mpr rfl) o M,r⟩
 item:=by
  intro X a hw d hc i ag s σ H E I hf st O;have T:i<z.cps.size:=O;obtain⟨f0,f1,f2,f3,f4,f5⟩:=hf it (mem_singleton.mpr rfl);refine wpAny_pyNext_wide_item st (c:=z.cps[i]) (by simp ) λh' G e=>?_;obtain⟨o,M,f,d1⟩:=id G;exact⟨_,rfl,v0  M f d1 V9 ⟨.str _,H,I.turned (λb o hb e2=>(e.2 b hb).trans e2) f0 f1 f3 f4 f5,⟨_,rfl⟩,⟨rfl,_,by simp ,rfl⟩,G,λb hb=>(hf b hb).1⟩⟩
 done:=by
  intro X a hw d hc i ag s σ H E I hf st O;have T:z.cps.size<=i:=O;obtain⟨f0,f1,f2,f3,f4,f5⟩:=hf it (mem_singleton.mpr rfl);exact wpAny_pyNext_wide_end (I.ok.hd hc) st S9 λh' U=>⟨rfl,I.turned  (λb o hb e2=>U b o hb e2) f0 f1 f3 f4 f5⟩
 self:=λ_ _ _ _ _ st h=>wpAny_pyIter_striter_wide st h
section
variable {X:Cx}{a b e:Expr}{pos:Pos}{x:Str}{p:Pos}{tg:Expr}
theorem Hq {l:Expr}{tl:TE}(hl:PE X l tl):PI X tg l (λσ H R=>tl σ H λx G=>∃z,x=.str z/\R (Tp z) G):=by
 intro ag s σ H R I h;refine c7 (hl _ s σ H _ I h) λv s1 ⟨x,G,M,O,T⟩=>?_;obtain⟨z,rfl,q⟩:=T;obtain⟨t,rfl⟩:=O;have fp:∀b∈[s1.heap.objs.size],mO X _ G b:=λb hb=>by
  rw[uT hb];exact M.fpOk (vT _) (M.hok.fresh (vT _))
 cases ha:z.cps.all _ with
 |true=>exact wpAny_pyIter_ascii ha ⟨_,[s1.heap.objs.size],_,_,G,rfl,M.kept  λb o e=>vZ _ e,zO z t _,⟨_,vY _ rfl,rfl,rfl⟩,fp,q⟩
 |false=>exact wpAny_pyIter_wide ha ⟨_,[s1.heap.objs.size],_,_,G,rfl,M.kept  λb o e=>vZ _ e,zP z t _,⟨_,vY _ rfl,rfl,rfl⟩,fp,q⟩
noncomputable def zQ (z:Str):LD:=z.cps.toList.map λc=>.str ⟨#[c]⟩
theorem Hr {K:Frag}{B:Hp}(z:Str):pq K (Tp z) B (zQ z):=by
 intro i H s;refine⟨λd ed=>?_,λhl=>by unfold zQ at hl;show z.cps.size<=i;simp_all⟩;unfold zQ at ed;rw[vA]at ed;obtain⟨c,O,rfl⟩:=oY ed;have G :=by simpa using O
 refine⟨(Array.getElem?_eq_some_iff.mp G).1,λv H' hy=>?_⟩;obtain⟨rfl,T,M,rfl⟩:=hy;rw[G]at M;cases M;exact⟨B,.refl s,.str _⟩
@[simp] def O0:D->Option LD
 |.lst ds=>some ds
 |.tup ds=>some ds
 |.str z=>some (zQ z)
 |_=>none
@[simp] def bT (f:FE):FA:=λρ=>(f ρ).bind λx=>O0 x.1
theorem bR (h:JE X e f):JI X tg e (bT f):=by
 intro ag s σ H R I q;obtain⟨B,ρ,ds,G,r,M,q⟩:=q;obtain⟨O,ex,es⟩:=oX M;obtain⟨xd,c⟩:=O;cases xd with
 |lst l=>exact Du h _ s σ H R I ⟨B,ρ,ds,G,r,by unfold Hm;rw[ex];exact es,q⟩
 |tup l=>exact Du h _ s σ H R I ⟨B,ρ,ds,G,r,by unfold Hm;rw[ex];exact es,q⟩
 |str z=>
  cases es
  refine Hq h _ s σ H R I ⟨B,ρ,_,_,G,r,ex,λv T N1 U i1 _=>?_⟩;cases i1
  exact⟨z,rfl,q _ T N1 U (Hr z)⟩
 |_=>cases es
theorem La:Gr X (λx lo hi H Q=>∃z,x=.str z/\z.length<=sizeLine/\Q (.str (Txt.slice z lo hi)) H):=by
 intro ag s σ H x v vl T lo hi sl Q I O hs pl M h;obtain⟨z,rfl,hz,q⟩:=h;obtain⟨t,rfl⟩:=O;have gz:∀lo hi,Q (.str (Txt.slice z lo hi)) H->(Txt.slice z lo hi).length<=sizeLine/\∀t' k,EP X ag σ Q _ _:=λlo hi q=>
  ⟨vR (Txt.slice_le z _ _) hz,λt' k=>⟨.str _,H,I.tok k,⟨t',rfl⟩,q⟩⟩
 refine⟨"str",_,PySem.F.slot_str_getitem.lookup,typeIs_str _ _ _,?_⟩;cases pl with
 |none=>
  cases M with
  |none=>exact wpAny_getItem_str_slice (l:=none) (u:=none) (st:=none) hs rfl (post_val_or_str (gz _ _ q))
  |int j G=>exact wpAny_getItem_str_slice (l:=none) (u:=some (j,G)) (st:=none) hs rfl (post_val_or_str (gz _ _ q))
 |int i ti=>
  cases M with
  |none=>exact wpAny_getItem_str_slice (l:=some (i,ti)) (u:=none) (st:=none) hs rfl (post_val_or_str (gz _ _ q))
  |int j G=>exact wpAny_getItem_str_slice (l:=some (i,ti)) (u:=some (j,G)) (st:=none) hs rfl (post_val_or_str (gz _ _ q))
theorem Fb {A:Around}{E:QV}{s:Shared}{prog:Program}{w:World}{t sl:Addr}{items:AV}{vl U:Value}{lo hi:OI}{Q:QV}(G:IsTup s.heap t items)(hs:s.heap.IsSliceOf sl vl U .none)(pl:IsPart vl lo)(c:IsPart U hi)
  (h0:HT.eV items.size 0 lo=0) (h1:HT.eV items.size items.size hi=items.size) (h:Q (.ref t) s):wpAny (model prog w) A (getItem (.ref t) (.ref sl)) Q E s:=by
 obtain⟨os,M,O,f⟩:=id hs
 have d:s.TypeIs (.ref sl) _:=⟨os,M,O⟩
 unfold getItem
 try with_reducible refine wpAny_holding ?_
 refine wX (wpAny_sequenceKey G.typeIs V9 ?_)
 refine wX (wpAny_callSpecial?_slot  G.typeIs PyProof.Rows.slot_tuple_getitem (wpAny_call_entry PyProof.Rows.slot_tuple_getitem G.typeIs entry_tuple_getitem ?_ (args_tuple_getitem _ _)))
 show wpAny _ _ (Builtin.Tuple.tupleItemsOf _>>=_) _ _ s
 refine wX (tupleItemsOf_ G ?_)
 refine wX (wpAny_typeOf d ?_)
 refine wX (HT.jA hs pl c ?_)
 have T:(((HT.eV items.size 0 lo:Nat):Int) == 0 && (1:Int) == 1 && (HT.eV items.size items.size hi - HT.eV items.size 0 lo) == items.size)=true:=by
  rw[h0,h1];simp
 show wpAny _ _ (if(((HT.eV _ 0 lo:Nat):Int) == 0 && (1:Int) == 1 && (HT.eV _ _ hi - HT.eV _ 0 lo) == items.size)=true then _ else _) _ _ s
 rw[if_pos T]
 refine wX ?_
 refine wX (wpAny_typeOf G.typeIs (wY ?_))
 refine wX (wpAny_rule ?_)
 exact wY ⟨_,rfl,wY h⟩
theorem Lb:Gr X (λx lo hi H Q=>∃a xs,x=.ref a/\jw X.K H a xs/\HT.eV xs.length 0 lo=0/\HT.eV xs.length xs.length hi=xs.length/\Q (.ref a) H):=by
 intro ag s σ H x v vl U lo hi sl Q I O hs pl T h;obtain⟨a,xs,rfl,hx,h0,h1,q⟩:=h;cases O
 obtain⟨its,r,M,hz⟩:=I.tuple hx;have G:its.toArray.size=xs.length:=by exact r.length.symm
 refine⟨"tuple",_,PyProof.Rows.slot_tuple_getitem.lookup,M.typeIs,?_⟩;exact Fb M hs pl T (by rw[G];exact h0) (by rw[G];exact h1) ⟨.ref a,H,I,rfl,q⟩
@[simp] def Gu (fa:FE)(fl G:FO):FE:=λρ=>(fa ρ).bind λx=>(fl ρ).bind λl=>(G ρ).bind λh=>match x.1 with
 |.lst ds=>some (.lst (qJ ds l h),true)
 |.tup ds=>some (.tup (qJ ds l h),false)
 |.str z=>if z.length<=sizeLine then some (.str (Txt.slice z l h),false)else none
 |_=>none
theorem BW {ds:LD}{lo hi:OI}(h0:HT.eV ds.length 0 lo=0)(h1:HT.eV ds.length ds.length hi=ds.length):qJ ds lo hi=ds:=by
 unfold qJ;rw[h0,h1];simp
theorem jE {lo hi:Option Expr}{p2:Pos}{fa:FE}{fl c:FO}(ha:JE X e fa)(hl:JO X lo fl)(hh:JO X hi c):JE X (.Subscript e (.Slice lo hi none p2) pos) (Gu fa fl c):=by
 refine PE.to (GC (Gr.or (Gr.or K4 Ob) (Gr.or La Lb)) ha hl hh) λσ H Q q=>?_;obtain⟨B,ρ,d,b,f,r,e,q⟩:=q;obtain⟨x,ex,e⟩:=oX e;obtain⟨l,g,e⟩:=oX e;obtain⟨h,i,e⟩:=oX e;refine⟨B,ρ,x.1,x.2,f,r,ex,λv k N1 G i1 _=>⟨N1,ρ,l,G.nh,r.mono G.bn,g,λH2 h2=>⟨N1,ρ,h,G.nh.trans h2,r.mono G.bn,i,λj h3=>?_⟩⟩⟩;have M:bc N1 j:=G.nh.trans (h2.trans h3);have T:=q.into (G.trans (.grow G.nh (h2.trans h3)));obtain⟨xd,m⟩:=x;cases i1 with
 |@tup U vs ds hs hv=>
  cases e
  by_cases hw:HT.eV ds.length 0 l=0/\HT.eV ds.length ds.length h=ds.length
  .rw[BW hw.1 hw.2]at T;exact .inr (.inr ⟨U,vs,rfl,bw M hs,by rw[hv.length];exact hw.1,by rw[hv.length];exact hw.2,T.one M (.tup hs hv)⟩)
  .refine .inl (.inr ⟨U,vs,rfl,bw M hs,by rw[hv.length];exact hw,λp hp=>?_⟩);have O:=Ext.laid (o:=.tup (vc vs l h)) M hp;exact T _ _ _ O (.tup (jw.of a8) ((yi hv).mono O.bn)) N9
 |@lst U vs ds hs hv=>
  cases e
  refine .inl (.inl ⟨U,vs,rfl,M.seq hs,λp hp=>?_⟩);have O:=Ext.laid (o:=.lst (vc vs l h)) M hp;exact T _ _ _ O (.lst (ii.of a8) ((yi hv).mono O.bn)) λ_=>⟨p,_,_,rfl,rfl,hp,a8,(yi hv).mono O.bn⟩
 |str z=>
  dsimp only at e;split at e
  .rename_i hz;cases e
   exact .inr (.inl ⟨z,rfl,hz,T.one M (.str _)⟩)
  simp_all
 |_=>cases e
theorem const_int {K:Frag}{y:Str}{i:Int}{t:Tok}(e:nsIn K mainGlobals y=some (some (.int i t))):∃u v,nsIn K mainGlobals y=some (some u)/\aX v u/\∀B,Is K B v (.int i):=⟨_,.int i,e,⟨t,rfl⟩,λ_=>.int i⟩
noncomputable def yo:Value->D->Bool
 |.none,.non=>true
 |.bool a,.bl b=>a == b
 |.int i _,.int j=>decide (i=j)
 |.str i _,.str j=>decide (i=j)
 |_,_=>false
def kh:LU->LD->Bool
 |[],[]=>true
 |u::us,d::ds=>yo u d && kh us ds
 |_,_=>false
theorem ma {K:Frag}{B:Hp}:∀ {u:Value}{d:D},yo u d=true->∃v,aX v u/\Is K B v d
 |.none,.non,_=>⟨.non,rfl,.non⟩
 |.bool a,.bl b,h=>by
  have :=eq_of_beq h;subst this;exact⟨.bl a,rfl,.bl a⟩
 |.int i t,.int j,h=>by
  have :=Ss h;subst this;exact⟨.int i,⟨t,rfl⟩,.int i⟩
 |.str i t,.str j,h=>by
  have :=Ss h;subst this;exact⟨.str i,⟨t,rfl⟩,.str i⟩
theorem ki {K:Frag}:∀ {us:LU}{ds:LD},kh us ds=true->∃vs,L2.bg vs us/\∀B,IsL K B vs ds
 |[],[],_=>⟨[],.nil,λ_=>.nil⟩
 |u::us,d::ds,h=>by
  rw[kh,vC]at h;obtain⟨vs,r,i⟩:=ki  h.2;obtain⟨v,M,_⟩:=ma (K:=K) (B:=λ_=>none) h.1;refine⟨v::vs,.cons M r,λB=>?_⟩;obtain⟨O,G,T⟩:=ma   h.1;have:O=v:=by have U:=M.abs;rw[G.abs]at U;simp_all
  subst this;exact .cons T (i B)
theorem const_tup {K:Frag}{y:Str}{a:Addr}{od:Option Addr}{its:AV}{n:Nat}{mv:Array (Option Value)}{ds:LD}(e:nsIn K mainGlobals y=some (some (.ref a)))
  (l:K.lookup a=some ⟨.type "tuple",od,.seq its n,mv⟩) (h:(decide (its.size<=1000) && kh its.toList ds)=true):∃u v,nsIn K mainGlobals y=some (some u)/\aX v u/\∀B,Is K B v (.tup ds):=by
 rw[vC]at h;obtain⟨vs,r,i⟩:=ki  h.2;exact⟨_,.ref a,e,rfl,λB=>.tup (.inr ⟨_,its,n,l,rfl,rfl,le_of_lt (lt_of_le_of_lt (Ss h.1) V9),r⟩) (i B)⟩
end
section
variable {X:Cx}{a b o e:Expr}{pos:Pos}{x:Str}{p:Pos}{tg:Expr}
theorem O1 {name:Str}{id:String}{di cj:Pos}{op:D->D->OB}{f fe:FE}(slot:Slot "str" name id)(i:typeOf (.builtin id)=pure (.type "method_descriptor"))
  (hm:K2 X id (λx xs H Q=>∃y,xs=[y]/\rD X.K op x y H Q)) (U:∀dx j r,op dx j=some r->∃z,dx=.str z) (k:JE X o f) (he:JE X e fe)
  (G:attributeBase o name X.env (eval o X.env)=eval o X.env:=by rfl)
  (l:((backTo cj (starEach [e] X.env)).all (λx=>!x.1) && (backToKw cj (keywordEach [] X.env)).all (λx=>x.1.isSome)
   && decide ([e].length+([]:List Keyword).length+(if([]:List Keyword).isEmpty then 0 else 1)<30))=true:=by rfl)
  (M:(di.endLine == cj.line)=true:=by rfl) (hs:starEach [e] X.env=[(false,eval e X.env)]:=by rfl):
  JE X (.Call (.Attribute o name di) [e] [] cj) (f2 op f fe):=by
 refine PE.to (zr PySem.F.plainAttrs_str slot i hm k (fF he hW hs) G l M hs rfl) λσ H Q q=>?_;obtain⟨B,ρ,d,bb,m,r,T,q⟩:=q;obtain⟨g,ex,T⟩:=oX T;obtain⟨c,n,T⟩:=oX T;obtain⟨z,hz⟩:=U _ _ _ T;refine⟨B,ρ,g.1,g.2,m,r,ex,λv t N1 O i1 _=>?_⟩;rw[hz]at i1;cases i1
 refine⟨show "str" = "str" from rfl,N1,ρ,c.1,c.2,O.nh,r.mono O.bn,n,λs H2 N2 h i2 _=>⟨s,rfl,N2,.str z,c.1,d,bb,h.nh,.str z,i2,by rw[<-hz];exact T,q.into (O.trans h)⟩⟩
@[simp] noncomputable def O2:D->Option Str
 |.str z=>some z
 |_=>none
def ga:LD->Option LS
 |[]=>some []
 |d::ds=>(O2 d).bind λz=>(ga ds).map (z :: ·)
@[simp] theorem Qj:ga []=some []:=rfl
@[simp] theorem O3 (d:D)(ds:LD):ga (d::ds)=(O2 d).bind λz=>(ga ds).map (z :: ·):=rfl
@[simp] theorem Qk (zs:LS):ga (zs.map D.str)=some zs:=by
 induction zs with
 |nil=>rfl
 |cons z zs ih=>simp[ih]
theorem iN {K:Frag}{B:Hp}:∀ {vs:LV}{ds:LD}{zs:LS}{its:LU},L2.bg vs its->IsL K B vs ds->ga ds=some zs->StrsAre its zs
 |_,_,_,_,.nil,.nil,e=>by cases e;exact .nil
 |_,_,_,_,.cons r M,.cons i O,e=>by
  obtain⟨z,G,e⟩:=oX e;obtain⟨zs,e2,e⟩:=oY e;subst e;cases i<;>simp  [O2]at G<;>try (cases G;done)
  cases G
  obtain⟨t,rfl⟩:=r;exact .cons _ t (iN M O e2)
@[simp] def Dv:D->D->OB
 |.str G,.lst ds=>(ga ds).bind λzs=>if(zs.map (·.length)).sum+zs.length*G.length<=16777216 then some (.str (Txt.join G zs),false)else none
 |.str G,.tup ds=>(ga ds).bind λzs=>if(zs.map (·.length)).sum+zs.length*G.length<=16777216 then some (.str (Txt.join G zs),false)else none
 |_,_=>none
theorem O4:K2 X "str.join" (λx xs H Q=>∃y,xs=[y]/\rD X.K Dv x y H Q):=by
 intro ag s σ H x xs v us Q I f g h;obtain⟨y,rfl,B,dx,m,d,bb,M,i,j,G,q⟩:=h;obtain⟨n,rfl,c⟩:=ij g;cases i<;>(try (simp  at G))
 obtain⟨t,rfl⟩:=f;cases j<;>(try (simp  at G;done))
 .rename_i h hl;obtain⟨zs,O,G⟩:=oX G;split at G
  .rename_i hok;cases G
   cases c
   obtain⟨its,T,U,l⟩:=I.tuple (bw M h);exact join_tuple U (by simpa using iN T hl O) hok λt' k=>⟨.str _,H,I.tok k,⟨t',rfl⟩,q.one M (.str _)⟩
  simp_all
 .rename_i h hl;obtain⟨zs,O,G⟩:=oX G;split at G
  .rename_i hok;cases G
   cases c
   obtain⟨its,T,U,l⟩:=I.list (M.seq h);exact join_list U.isList (by simpa using iN T hl O) hok λt' k=>⟨.str _,H,I.tok k,⟨t',rfl⟩,q.one M (.str _)⟩
  simp_all
theorem Hs (dx G:D)(r:D×Bool)(h:Dv dx G=some r):∃z,dx=.str z:=by
 cases dx<;>first|exact⟨_,rfl⟩|(cases G<;>simp  at h)
noncomputable def jl:LN->LD->Env->Option Env
 |[],[],ρ=>some ρ
 |i::is,d::ds,ρ=>jl is ds (ρ.set i (some (d,false)))
 |_,_,_=>none
@[simp] theorem Ql (ρ:Env):jl [] [] ρ=some ρ:=by rw[jl]
@[simp] theorem BX (i:Nat)(is:LN)(d:D)(ds:LD)(ρ:Env):jl (i::is) (d::ds) ρ=jl is ds (ρ.set i (some (d,false))):=by rw[jl]
@[simp] theorem R7 (d:D)(ds:LD)(ρ:Env):jl [] (d::ds) ρ=none:=by simp only[jl]
@[simp] theorem R8 (i:Nat)(is:LN)(ρ:Env):jl (i::is) [] ρ=none:=by simp only[jl]
@[simp] def wu (is:LN):FG:=λd ρ=>match d with|.tup ds=>jl is ds ρ|_=>none
def rL:LN->NH
 |[]=>QC
 |i::is=>M7 (lm i) (rL is)
theorem Ht:bc (gg N (own σ ρ)) (gg N (own (σ.set i (some v)) (ρ.set i (some (d,false))))):=fz λa u e q=>⟨e,λz=>q (by
 rcases ya z with⟨_,d',p⟩|⟨j,_,d',G,M⟩
 .cases p
 .exact⟨j,d',G,M⟩)⟩
theorem wv {K:Frag}:∀ {is:LN}{vs:LV}{ds:LD}{B0 H0 N H:Hp}{σ:St}{ρ ρ':Env}{Q:St->Hp->Prop},eN K B0 H0 N H σ ρ->IsL K (gg N (own σ ρ)) vs ds->jl is ds ρ=some ρ'->(∀G,eN K B0 H0 N H G ρ'->Q G H)->rL is vs σ H Q
 |[],_,_,_,_,_,_,_,_,_,_,s,.nil,e,k=>by
  cases e
  exact⟨rfl,k _ s⟩
 |[],_,_,_,_,_,_,_,_,_,_,_,.cons _ _,e,_=>by simp at e
 |_::_,_,_,_,_,_,_,_,_,_,_,_,.nil,e,_=>by simp at e
 |i::is,_,_,_,_,_,_,_,_,_,_,s,.cons h hs,e,k=>by
  exact⟨_,_,rfl,wv (s.bind h) (hs.mono Ht) e k⟩
theorem pw:∀ {is:LN}{ds:LD}{ρ ρ':Env},jl is ds ρ=some ρ'->ds.length=is.length
 |[],[],_,_,_=>rfl
 |_::_,_::_,_,_,e=>by rw[BX]at e;simp[pw e]
 |[],_::_,_,_,e=>by simp at e
 |_::_,[],_,_,e=>by simp at e
theorem Hu {K:Frag}{is:LN}:KH K (wu is) (NJ K is.length (rL is)):=by
 intro B0 H0 N H σ ρ ρ' v d Q s h e k;cases h with
 |@tup a vs ds M hl=>
  have G :=e;exact⟨a,vs,rfl,bw (bW.trans s.ext.nh) M,by rw[hl.length];exact pw G,wv s hl G λO s'=>k _ H ⟨N,s'⟩⟩
 |_=>cases e
theorem ww {K:Frag}{n:Nat}{B H:Hp}{G:Env}{Q:St->Hp->Prop}(cl:∀i,i<n->G[i]? = some none):∀ {is:LN}{vs:LV}{ds:LD}{σ:St}{ρ O:Env},(∀i∈is,i<n)->gy K B σ ρ->IsL K B vs ds->jl is ds ρ=some O->ρ.length=σ.length->ρ.length=G.length ->
  (∀M,gy K B M O->(∀T,gy K T σ G->gy K T M G)->G.length=M.length->Q M H)->rL is vs σ H Q
 |[],_,_,_,_,_,_,rp,.nil,e,l1,l2,k=>by
  cases e
  exact⟨rfl,k _ rp (λ_ z=>z) M9⟩
 |[],_,_,_,_,_,_,_,.cons _ _,e,_,_,_=>by simp at e
 |_::_,_,_,_,_,_,_,_,.nil,e,_,_,_=>by simp at e
 |i::is,_,_,σ,ρ,_,hn,rp,.cons  h hs,e,l1,l2,k=>by
  have hi:=hn i mX;have U:i<σ.length:=by
   grind
  refine⟨_,_,rfl,ww cl (λj hj=>hn j (mZ _ hj)) ⟨rp.tb,λj d b q=>?_⟩ hs e (by simpa using l1) (by simpa using l2) λM c f l=>k _ c (λT z=>f T ⟨z.tb,λj d b q=>?_⟩) l⟩
  .rcases cm q with⟨rfl,pp⟩|⟨ne,pp⟩
   .simp_all
   .obtain⟨w,h1,h2⟩:=rp.at' j d b pp;simp_all
  .obtain⟨w,h1,h2⟩:=z.at' j d b q;have ne:i≠j:=λz=>by subst z;rw[cl i hi]at q;cases q
   exact⟨w,by simp_all,h2⟩
theorem MN {K:Frag}{n:Nat}{is:LN}(hn:∀i∈is,i<n):MG K n (wu is) (NJ K is.length (rL is)):=by
 intro B H σ ρ M v d Q cl rep s h e hl k;cases h with
 |@tup a vs ds O hv=>
  have G :=e;exact⟨a,vs,rfl,bw s O,by rw[hv.length];exact pw G,ww cl hn rep hv G hl rfl k⟩
 |_=>cases e
end
section
variable {prog:Program}{w:World}{A:Around}{E:QV}{s:Shared}
theorem BY (st:s.heap.IsTupleIter it l i)(G:s.heap.IsTuple l items)(hv:items[i]? = some v)
  (k:∀h',h'.IsTupleIter it l (i+1)->Heap.SameBut it s.heap h'->Q v { s with heap:=h' }):wpAny (model prog w) A (Builtin.SmallTypes.nextOf (.ref it)) Q E s:=by
 obtain⟨T,g1,M,d1⟩:=id st;obtain⟨U,O,_,n2,d2⟩:=G;refine wX (wpAny_callSpecial?_slot  st.typeIs slot_tuple_iterator_next (wpAny_call_entry slot_tuple_iterator_next st.typeIs PySem.F.entry_tuple_iterator_next ?_ (PySem.F.args_tuple_iterator_next_1 _)));show wpAny _ _ (field _ 0>>=_) _ _ _;refine wX (wpAny_field g1 d1  rfl ?_);refine wX (wpAny_field g1 d1  rfl ?_);refine wX (wpAny_seqItems O d2 ?_);simp  [hv,Int.toNat_natCast];refine wX (wpAny_setField g1 d1 N9 (wY ⟨v,rfl,wY (k _ ?_ (vW ..))⟩));exact⟨_,Heap.get?_update_self _ g1 (Obj.isFreed_of_fields (Obj.data_mapFields d1 _)),(Obj.cls_mapFields ..).trans M,by rw[Obj.data_mapFields d1];simp[rawInt]⟩
theorem Fc (G:A.handled=none)(st:s.heap.IsTupleIter it l i)(M:s.heap.IsTuple l items)(hv:items[i]? = none)
  (k:∀h' x,Heap.ExtBut it s.heap h'->(∃o,h'.get? x=some o/\o.cls=.type "StopIteration")->E (.ref x) { s with heap:=h' }):wpAny (model prog w) A (Builtin.SmallTypes.nextOf (.ref it)) Q E s:=by
 obtain⟨T,g1,U,d1⟩:=id st;obtain⟨a,O,_,n2,d2⟩:=M;refine wX (wpAny_callSpecial?_slot  st.typeIs slot_tuple_iterator_next (wpAny_call_entry slot_tuple_iterator_next st.typeIs PySem.F.entry_tuple_iterator_next ?_ (PySem.F.args_tuple_iterator_next_1 _)));show wpAny _ _ (field _ 0>>=_) _ _ _;refine wX (wpAny_field g1 d1  rfl ?_);refine wX (wpAny_field g1 d1  rfl ?_);refine wX (wpAny_seqItems O d2 ?_);simp  [hv,Int.toNat_natCast];refine wX (wpAny_rule (wX (wpAny_setField g1 d1 N9 ?_)));refine wX ?_;refine wX (m:=firstArgMember _ _) (wpAny_of_eq  H9 ?_);refine wpAny_newObj_type ?_ s9;refine wX (wpAny_handled ?_);first|rw[G]|rw[show A.in1.handled=none from G]
 exact wX (wY (wpAny_throw (k _ _ (((vW ..).extBut.push _).push _) ⟨_,vY _ rfl,rfl⟩)))
end
def md:Bool->Heap->Addr->Addr->Nat->Prop
 |true,h,it,a,i=>h.IsListIter it a i
 |false,h,it,a,i=>h.IsTupleIter it a i
def mf:Bool->Heap->Addr->AV->Prop
 |true,h,a,items=>h.IsList a items
 |false,h,a,items=>h.IsTuple a items
def mQ (k:Bool)(K:Frag)(H:Hp)(a:Addr)(xs:LV):Prop:=match k with|true=>ii K H a xs|false=>jw K H a xs
theorem md.ob (st:md k h it a i):∃o,h.get? it=some o/\∀v,o.data≠.cell v:=by
 cases k<;>(obtain⟨o,g,_,d⟩:=st;simp_all)
theorem md.upon (st:md k h it a i)(g:∀o,h.get? it=some o->h'.get? it=some o):md k h' it a i:=by
 cases k<;>(obtain⟨o,e,r⟩:=st;exact⟨o,g o e,r⟩)
theorem mf.upon (st:mf k h a items)(g:∀o,h.get? a=some o->h'.get? a=some o):mf k h' a items:=by
 cases k<;>(obtain⟨o,e,r⟩:=st;exact⟨o,g o e,r⟩)
theorem mf.lt (st:mf k h a items):a<h.objs.size:=by
 cases k<;>(obtain⟨o,e,r⟩:=st;exact vX e)
theorem mQ.same {k:Bool}{K:Frag}{H H':Hp}{a:Addr}{xs:LV}(h:mQ k K H a xs)(e:bc H H'):mQ k K H' a xs:=by
 cases k
 .exact bw e h
 .exact e.seq h
theorem mQ.vals (I:Inv X ag σ H s)(h:mQ k X.K H a xs):∃its:LU,bg xs its/\mf k s.heap a its.toArray/\xs.length<=sizeLine:=by
 cases k
 .exact I.tuple h
 .obtain⟨its,r,p,z⟩:=I.list h;exact⟨its,r,p.isList,z⟩
theorem mQ.inj (I:Inv X ag σ H s)(h:mQ k X.K H a xs)(h':mQ k X.K H a ys):xs=ys:=by
 cases k
 .exact I.tuple_inj h h'
 .exact I.list_inj h h'
section
variable {prog:Program}{w:World}{A:Around}{E:QV}{s:Shared}
theorem gD (st:md k s.heap it l i)(G:mf k s.heap l items)(hv:items[i]? = some v)
  (q:∀h',md k h' it l (i+1)->Heap.SameBut it s.heap h'->Q v { s with heap:=h' }):wpAny (model prog w) A (Builtin.SmallTypes.nextOf (.ref it)) Q E s:=by
 cases k
 .exact BY st G hv q
 .exact wpAny_nextOf_list_item st G hv q
theorem jF (G:A.handled=none)(st:md k s.heap it l i)(M:mf k s.heap l items)(hv:items[i]? = none)
  (q:∀h' x,Heap.ExtBut it s.heap h'->(∃o,h'.get? x=some o/\o.cls=.type "StopIteration")->E (.ref x) { s with heap:=h' }):wpAny (model prog w) A (Builtin.SmallTypes.nextOf (.ref it)) Q E s:=by
 cases k
 .exact Fc G st M hv q
 .exact wpAny_nextOf_list_end G st M hv q
end
noncomputable def Lc (k:Bool)(l:Addr):Obj:={ cls:=.type (if k=true then "list_iterator" else "tuple_iterator"),data:=.fields #[.ref l,.int 0 0] }
theorem nV (G:mf k s.heap l items)
  (q:Q (.ref s.heap.objs.size) { s with heap:=s.heap.push (Lc k l) }):wpAny (model prog w) A (pyIter (.ref l)) Q E s:=by
 cases k
 .exact wpAny_pyIter_tuple G q
 .exact wpAny_pyIter_list G q
theorem mf.push (st:mf k h a items)(o:Obj):mf k (h.push o) a items:=st.upon λ_ e=>vZ _ e
section
variable (k1 k2:Bool) (h:Heap) (l1 l2:Addr)
abbrev zA:Heap:=h.push (Lc k1 l1)
abbrev zB:Heap:=(zA k1 h l1).push (Lc k2 l2)
abbrev zC:Heap:=(zB k1 k2 h l1 l2).push { cls:=.type "tuple",data:=.seq #[.ref h.objs.size,.ref (zA k1 h l1).objs.size] }
abbrev zD:Heap:=(zC k1 k2 h l1 l2).push { cls:=.type "tuple",data:=.seq #[.none,.none] }
abbrev zE:Heap:=(zD k1 k2 h l1 l2).push { cls:=.type "zip",data:=.fields #[.none,.bool false,.bool false,.ref (zB k1 k2 h l1 l2).objs.size,.ref (zC k1 k2 h l1 l2).objs.size] }
end
theorem BZ (k1 k2:Bool)(l1 l2:Addr)(xs ys:AV):Meets (Builtin.«zip.__new__» ⟨[.type "zip",.ref l1,.ref l2],[]⟩) (λ_ R s=>mf k1 s.heap l1 xs/\mf k2 s.heap l2 ys /\
   R (.ok (.ret (.ref (zD k1 k2 s.heap l1 l2).objs.size))) { s with heap:=zE k1 k2 s.heap l1 l2 }) :=
 .of_wp λprog w A R s hs=>by
  obtain⟨hp,g,d,tk,os⟩:=s;obtain⟨M,O,hs⟩:=hs;have G:=sub_zip;have T :=M;have p2:mf k2 (Shared.heap ⟨hp.push (Lc k1 l1),g,d,tk,os⟩) l2 ys:=mf.push O _;wp_walk using nV T,nV p2;exact⟨_,rfl,hs⟩
section
variable {prog:Program}{w:World}{A:Around}{E:QV}{s:Shared}
theorem Dx (f:mf k1 s.heap l1 xs)(g:mf k2 s.heap l2 ys)
  (q:∀h',IsZip h' (s.heap.objs.size+4) (s.heap.objs.size+2) (s.heap.objs.size+3) .none->IsPair h' (s.heap.objs.size+2) (.ref s.heap.objs.size) (.ref (s.heap.objs.size+1))->IsPair h' (s.heap.objs.size+3) .none .none ->
   md k1 h' s.heap.objs.size l1 0->md k2 h' (s.heap.objs.size+1) l2 0->(∀c o,s.heap.get? c=some o->h'.get? c=some o)->Q (.ref (s.heap.objs.size+4)) { s with heap:=h' }):
  wpAny (model prog w) A (call (.type "zip") [.ref l1,.ref l2]) Q E s:=by
 refine callType_new PySem.F.called_zip V9 (PySem.F.typeCall_zip_2 _ _) (PySem.F.newCall_zip_2 _ _) (λobj=>PySem.F.args_object_init_3 obj _ _) PySem.F.entry_zip_new (BZ k1 k2 l1 l2 xs ys) ⟨f,g,?_⟩;have n1:(zA k1 s.heap l1).objs.size=s.heap.objs.size+1:=Heap.size_push ..;have n2:(zB k1 k2 s.heap l1 l2).objs.size=s.heap.objs.size+2:=by rw[Heap.size_push,n1]
 have n3:(zC k1 k2 s.heap l1 l2).objs.size=s.heap.objs.size+3:=by rw[Heap.size_push,n2]
 have n4:(zD k1 k2 s.heap l1 l2).objs.size=s.heap.objs.size+4:=by rw[Heap.size_push,n3]
 have M:∀ {c o},(zD k1 k2 s.heap l1 l2).get? c=some o->(zE k1 k2 s.heap l1 l2).get? c=some o:=λe=>vZ _ e;have O:∀ {c o},(zC k1 k2 s.heap l1 l2).get? c=some o->(zE k1 k2 s.heap l1 l2).get? c=some o:=λe=>M (vZ _ e);have T:∀ {c o},(zB k1 k2 s.heap l1 l2).get? c=some o->(zE k1 k2 s.heap l1 l2).get? c=some o:=λe=>O (vZ _ e);have U:∀ {c o},(zA k1 s.heap l1).get? c=some o->(zE k1 k2 s.heap l1 l2).get? c=some o:=λe=>T (vZ _ e);have h:∀ {c o},s.heap.get? c=some o->(zE k1 k2 s.heap l1 l2).get? c=some o:=λe=>U (vZ _ e);have G:(zE k1 k2 s.heap l1 l2).get? _=some _:=vY _ rfl;have a :=M (vY _ rfl);have b :=O (vY _ rfl);have d :=T (vY _ (by cases k2<;>rfl))
 have g1 :=U (vY _ (by cases k1<;>rfl))
 rw[n2,n3,n4]at G;rw[n1,n2]at b;rw[n3]at a;rw[n1]at d;show _/\_;rw[n4];refine⟨⟨_,G,rfl⟩,q _ G b a ?_ ?_ λc o e=>h e⟩
 .cases k1<;>exact⟨_,g1,rfl,rfl⟩
 .cases k2<;>exact⟨_,d,rfl,rfl⟩
structure ZApart (z TI TO i1 i2:Addr):Prop where
 tz:TI≠z
 oz:TO≠z
 az:i1≠z
 bz:i2≠z
 oa:TO≠i1
 ob:TO≠i2
 to:TI≠TO
 ta:TI≠i1
 tb:TI≠i2
 ab:i1≠i2
theorem zR {k1 k2:Bool}{z TI TO i1 i2 l1 l2:Addr}{j:Nat}{xs ys:AV}{x y a b:Value}{Q:QV}(D:ZApart z TI TO i1 i2)(m1:l1≠z/\l1≠TO/\l1≠i1)(m2:l2≠z/\l2≠TO/\l2≠i1/\l2≠i2)
  (hz:IsZip s.heap z TI TO .none) (L:IsPair s.heap TI (.ref i1) (.ref i2)) (N:IsPair s.heap TO a b) (P:md k1 s.heap i1 l1 j) (R:md k2 s.heap i2 l2 j) (S:mf k1 s.heap l1 xs) (V:mf k2 s.heap l2 ys) (hx:xs[j]? = some x) (hy:ys[j]? = some y)
  (q:∀h',IsZip h' z TI TO (rawInt s.heap.objs.size)->IsPair h' TO x y->md k1 h' i1 l1 (j+1)->md k2 h' i2 l2 (j+1)->IsPair h' s.heap.objs.size x y->h'.objs.size=s.heap.objs.size+1 ->
   (∀c o,c≠z->c≠TO->c≠i1->c≠i2->s.heap.get? c=some o->h'.get? c=some o)->Q (.ref s.heap.objs.size) { s with heap:=h' }):
  wpAny (model prog w) A (Builtin.«zip.__next__» ⟨[.ref z],[]⟩) (λgz s'=>∃v,gz=.done (.ret v)/\Q v s') E s:=by
 show wpAny _ _ (field (.ref z) 2>>=_) _ _ s;refine wX (wpAny_field hz rfl (x:=.bool false) rfl ?_);show wpAny _ _ (field (.ref z) 3>>=_) _ _ s;refine wX (wpAny_field hz rfl (x:=.ref TI) rfl (wX (wpAny_seqItems L rfl ?_)));refine wX ?_;unfold Builtin.SmallTypes.ownedTupleIsFree;refine wX (wpAny_field hz rfl (x:=.none) rfl (wY ?_));simp only[if_true];refine wX (wpAny_rule (wX (wpAny_field hz rfl (x:=.ref TO) rfl (wX (wpAny_setField_rec hz N9 λg1 U s1=>?_)))));replace U:IsZip g1 z TI TO .ellipsis:=U;refine wX ?_;refine wX (wX (wpAny_onRaise ?_));refine wX (gD (s:={ s with heap:=g1 }) (P.upon λo e=>s1.extBut _ _ D.az e) (S.upon λo e=>s1.extBut _ _ m1.1 e) hx λW l s2=>wY ?_);have C:IsPair W TO a b:=s2.extBut _ _ D.oa (s1.extBut _ _ D.oz N);refine wX (wpAny_seqItems C rfl (wX (wpAny_updateSeq_pair C λm d i=>?_)));replace d:IsPair m TO x b:=d;refine wX (wpAny_letGo (wY (wX (wX (wpAny_onRaise ?_)))));have n:∀ {c o},c≠z->c≠TO->c≠i1->s.heap.get? c=some o->m.get? c=some o:=λM c2 c3 e=>i.extBut _ _ c2 (s2.extBut _ _ c3 (s1.extBut _ _ M e));refine wX (gD (s:={ s with heap:=m }) (R.upon λo e=>n D.bz D.ob.symm D.ab.symm e) (V.upon λo e=>n m2.1 m2.2.1 m2.2.2.1 e) hy λX p f=>wY ?_);have F:IsPair X TO x b:=f.extBut _ _ D.ob d;refine wX (wpAny_seqItems F rfl (wX (wpAny_updateSeq_pair F λG O g=>?_)));replace O:IsPair G TO x y:=O;refine wX (wpAny_letGo (wY (wY (wX (wpAny_seqItems O rfl (wX (wpAny_newTuple ?_)))))));have sz:G.objs.size=s.heap.objs.size:=by rw[g.1,f.1,i.1,s2.1,s1.1]
 have Y:∀c o,c≠z->c≠TO->c≠i1->c≠i2->s.heap.get? c=some o->G.get? c=some o:=λc o M c2 c3 r e=>g.extBut _ _ c2 (f.extBut _ _ r (n M c2 c3 e));have H:IsZip G z TI TO .ellipsis:=g.extBut _ _ D.oz.symm (f.extBut _ _ D.bz.symm (i.extBut _ _ D.oz.symm (s2.extBut _ _ D.az.symm U)));have Z:md k1 G i1 l1 (j+1):=l.upon λo e=>g.extBut _ _ D.oa.symm (f.extBut _ _ D.ab (i.extBut _ _ D.oa.symm e));have Zi:md k2 G i2 l2 (j+1):=p.upon λo e=>g.extBut _ _ D.ob.symm e;have I:z<G.objs.size:=vX H;refine wX ?_;unfold Builtin.SmallTypes.ownedTupleHandOut;have Zj:IsZip (G.push { cls:=.type "tuple",data:=.seq #[x,y] }) z TI TO .ellipsis:=vZ _ H;refine wX (wpAny_setField_rec Zj N9 λg7 t u=>?_);refine wpAny_setField_rec t N9 λk h B=>?_;have T:∀c o,c≠z->G.get? c=some o->k.get? c=some o:=λc o M e=>B.extBut _ _ M (u.extBut _ _ M (vZ _ e));have J:IsPair k G.objs.size x y:=B.extBut _ _ (ne_of_gt I) (u.extBut _ _ (ne_of_gt I) (vY _ rfl));have K:k.objs.size=G.objs.size+1:=by rw[B.1,u.1,Heap.size_push]
 rw[sz]at h J K;refine wY ⟨_,rfl,?_⟩;show Q (.ref G.objs.size) _;rw[sz];exact q k h (T _ _ D.oz O) (Z.upon λo e=>T _ o D.az e) (Zi.upon λo e=>T _ o D.bz e) J K λc o M c2 c3 r e=>T c o M (Y c o M c2 c3 r e)
end
section
variable {prog:Program}{w:World}{A:Around}{E:QV}{s:Shared}
theorem Dy {k1 k2:Bool}{z TI TO i1 i2 l1 l2:Addr}{j:Nat}{xs ys:AV}{a b:Value}{Q:PySem.Fin->Shared->Prop}(k:A.handled=none)(D:ZApart z TI TO i1 i2)(m1:l1≠z/\l1≠TO/\l1≠i1)(m2:l2≠z/\l2≠TO/\l2≠i1/\l2≠i2)
  (hz:IsZip s.heap z TI TO .none) (r:IsPair s.heap TI (.ref i1) (.ref i2)) (t:IsPair s.heap TO a b) (l:md k1 s.heap i1 l1 j) (u:md k2 s.heap i2 l2 j) (m:mf k1 s.heap l1 xs) (y:mf k2 s.heap l2 ys) (he:xs[j]? = none\/ys[j]? = none)
  (q:∀h' x,(∀c o,c≠z->c≠TO->c≠i1->c≠i2->s.heap.get? c=some o->h'.get? c=some o)->(∃o,h'.get? x=some o/\o.cls=.type "StopIteration")->E (.ref x) { s with heap:=h' }):
  wpAny (model prog w) A (Builtin.«zip.__next__» ⟨[.ref z],[]⟩) Q E s:=by
 show wpAny _ _ (field (.ref z) 2>>=_) _ _ s;refine wX (wpAny_field hz rfl (x:=.bool false) rfl ?_);refine wX (wpAny_field hz rfl (x:=.ref TI) rfl (wX (wpAny_seqItems r rfl ?_)));refine wX ?_;refine wX (wpAny_field hz rfl (x:=.none) rfl (wY ?_));simp only[if_true];refine wX (wpAny_rule (wX (wpAny_field hz rfl (x:=.ref TO) rfl (wX (wpAny_setField_rec hz N9 λg1 O s1=>?_)))));refine wX ?_;refine wX (wX (wpAny_onRaise ?_));cases hx:xs[j]? with
 |none=>
  refine wX (jF (s:={ s with heap:=g1 }) k (l.upon λo e=>s1.extBut _ _ D.az e) (m.upon λo e=>s1.extBut _ _ m1.1 e) hx λf x s2 hX=>?_);obtain⟨g,h,i⟩:=hX;have B:IsZip f z TI TO .ellipsis:=s2 _ _ D.az.symm O;have nz:x≠z:=λC=>by lia
  exact wpAny_setField_rec B N9 λd _ T=>q d x (λc o G _ c3 _ e=>T.extBut _ _ G (s2 _ _ c3 (s1.extBut _ _ G e))) ⟨g,T.extBut _ _ nz h,i⟩
 |some v=>
  have hy:ys[j]? = none:=by
   lia
  refine wX (gD (s:={ s with heap:=g1 }) (l.upon λo e=>s1.extBut _ _ D.az e) (m.upon λo e=>s1.extBut _ _ m1.1 e) hx λf F s2=>wY ?_);have U:IsPair f TO a b:=s2.extBut _ _ D.oa (s1.extBut _ _ D.oz t);refine wX (wpAny_seqItems U rfl (wX (wpAny_updateSeq_pair U λd H T=>?_)));refine wX (wpAny_letGo (wY (wX (wX (wpAny_onRaise ?_)))));have M:∀ {c o},c≠z->c≠TO->c≠i1->s.heap.get? c=some o->d.get? c=some o:=λG c2 c3 e=>T.extBut _ _ c2 (s2.extBut _ _ c3 (s1.extBut _ _ G e));refine wX (jF (s:={ s with heap:=d }) k (u.upon λo e=>M D.bz D.ob.symm D.ab.symm e) (y.upon λo e=>M m2.1 m2.2.1 m2.2.2.1 e) hy λI x n hX=>?_);obtain⟨g,h,i⟩:=hX;have J:IsZip I z TI TO .ellipsis:=n _ _ D.bz.symm (T.extBut _ _ D.oz.symm (s2.extBut _ _ D.az.symm O));have nz:x≠z:=λC=>by lia
  exact wpAny_setField_rec J N9 λK _ p=>q K x (λc o G c2 c3 L e=>p.extBut _ _ G (n _ _ L (M G c2 c3 e))) ⟨g,p.extBut _ _ nz h,i⟩
end
theorem mh {X:Cx}{ag:AO}{σ:St}{H:Hp}{s:Shared}{h':Heap}{t':Nat}{ch:List Addr}(I:Inv X ag σ H s)(f:∀b∈ch,mO X ag H b)(k:∀b o,b∉ch->s.heap.get? b=some o->h'.get? b=some o):Inv X ag σ H { s with heap:=h',toks:=t' }:=by
 have G:∀b u,H b=some u->b∉ch:=λb u e z=>by rw[(f b z).1]at e;cases e
 refine I.step    (λb hb=>?_) (λb o _ _ hc e _=>k b o hc e) (λb o _ _ hc e _=>⟨o.slots,k b o hc e⟩) (λ_ _ _ _ n=>n)
  (λb o hc e=>⟨o,k b o hc e⟩) (λ_ _ e=>e) (λ_ _ _ e=>e) (λ_ _ e=>e) (λm hm=>?_) (λb u e=>?_) I.bare
 .obtain⟨_,f1,_,f3,f4,f5⟩:=f b hb;exact⟨f3,f1,f4,f5⟩
 .obtain⟨o,es,M,O,r⟩:=hm;exact⟨o,es,M,k _ o (λz=>(f _ z).2.1 rfl) O,r⟩
 .refine(I.hok b u e).stay (λc v hc q=>k c v ?_ q) (λ_ q=>q) (λ_ _ q=>q) λ_ _ _ q=>q;grind
theorem Dz {X:Cx}{ag:AO}{σ:St}{H:Hp}{s:Shared}{h':Heap}{t':Nat}{ch:List Addr}{a:Addr}{ob:HO}(I:Inv X ag σ H s)(f:∀b∈ch,mO X ag H b)(k:∀b o,b∉ch->s.heap.get? b=some o->h'.get? b=some o)(ha:s.heap.objs.size<=a)
  (new:bP X.prog X.w (upd H a ob) h' a ob):Inv X ag σ (upd H a ob) { s with heap:=h',toks:=t' }:=by
 have hn:H a=none:=I.hok.fresh ha;have G:∀b u,H b=some u->b∉ch:=λb u e z=>by rw[(f b z).1]at e;cases e
 have M:∀b o,s.heap.get? b=some o->b≠a:=λb o e=>vS (vQ (vX e) ha);refine I.step   (ch:=ch) (λb hb=>?_) (λb o _ _ hc e _=>k b o hc e) (λb o _ _ hc e _=>⟨o.slots,k b o hc e⟩) (λb o _ e n=>by rw[aK (M b o e)];exact n)
  (λb o hc e=>⟨o,k b o hc e⟩) (λb xs e=>by rw[aK (bi e hn)];exact e) (λb o u e=>by rw[aK (bi e hn)];exact e) (λb ps e=>by rw[aK (bi e hn)];exact e) (λm hm=>?_) (λb u e=>?_) I.bare
 .obtain⟨_,f1,_,f3,f4,f5⟩:=f b hb;exact⟨f3,f1,f4,f5⟩
 .obtain⟨o,es,O,T,r⟩:=hm;exact⟨o,es,O,k _ o (λz=>(f _ z).2.1 rfl) T,r⟩
 .by_cases hb:b=a
  .simp_all[a8]
  .rw[aK hb]at e;refine(I.hok b u e).stay (λc v hc q=>k c v ?_ q) (λc q=>?_) (λc xs q=>?_) λc o xs q=>?_
   .grind
   .rw[aK (bi q hn)];exact q
   .rw[aK (bi q hn)];exact q
   .rw[aK (bi q hn)];exact q
noncomputable def Uv (K:Frag)(k1 k2:Bool)(G M:Addr):It :=
  ⟨λi H=>∃xs ys x y,mQ k1 K H G xs/\mQ k2 K H M ys/\xs[i]? = some x/\ys[i]? = some y,
   λi H v H'=>∃T x y,v=.ref T/\H T=none/\H'=upd H T (.tup [x,y])/\(∀xs,mQ k1 K H G xs->xs[i]? = some x)/\(∀ys,mQ k2 K H M ys->ys[i]? = some y),
   λi H=>∃xs ys,mQ k1 K H G xs/\mQ k2 K H M ys/\(xs.length<=i\/ys.length<=i)⟩
theorem Hv {P:Program}{w:World}{K:Frag}{es:QD}{C:Nat}{pt:Pos}{k1 k2:Bool}{g d z TI TO i1 i2:Addr}(D:ZApart z TI TO i1 i2)(m1:g≠z/\g≠TO/\g≠i1)(m2:d≠z/\d≠TO/\d≠i1/\d≠i2):
  Turn P w K (.Tuple es C pt) (Uv K k1 k2 g d) [z,TI,TO,i1,i2] z (λi h=>IsZip h z TI TO .none/\IsPair h TI (.ref i1) (.ref i2)/\(∃a b,IsPair h TO a b)/\md k1 h i1 g i/\md k2 h i2 d i) where
 mem:=N9
 obj:=λi h st b hb=>by
  obtain⟨hz,U,⟨a,c,f⟩,M,O⟩:=st;simp at hb;rcases hb with rfl|rfl|rfl|rfl|rfl
  .simp_all
  .simp_all
  .simp_all
  .exact M.ob
  .exact O.ob
 keep:=λi h h' st k=>by
  obtain⟨hz,U,⟨a,c,f⟩,M,O⟩:=st;exact⟨k z N9 _ hz,k TI N9 _ U,⟨a,c,k TO N9 _ f⟩,M.upon λo e=>k i1 N9 o e,O.upon λo e=>k i2 N9 o e⟩
 item:=by
  intro X n hw p hc i ag s σ H E I hf st r;subst n hw p;obtain⟨hz,U,⟨a,c,f⟩,M,O⟩:=st;obtain⟨xs,ys,x,y,l,m,hx,hy⟩:=r;obtain⟨its,t,A,F⟩:=l.vals I;obtain⟨J,B,p2,L⟩:=m.vals I;obtain⟨u,hu,ru⟩:=t.get hx;obtain⟨v,hv,N⟩:=B.get hy;have j:s.TypeIs (.ref z) "zip":=⟨_,hz,rfl⟩;have fresh:H s.heap.objs.size=none:=I.hok.fresh (vT _);have lt:∀ {c o},s.heap.get? c=some o->c≠s.heap.objs.size:=λe=>vS (vX e);have l1:i1≠s.heap.objs.size:=by obtain⟨o,e,_⟩:=M.ob;exact lt e
  have l2:i2≠s.heap.objs.size:=by obtain⟨o,e,_⟩:=O.ob;exact lt e
  unfold pyNext;refine wX (wpAny_attempt (wpAny_callSpecial?_slot (name:=Str.ofString "__next__") j slot_zip_next (wpAny_call_entry slot_zip_next j entry_zip_next (zR D m1 m2 hz U f M O A p2 (by simpa using hu) (by simpa using hv) λh' b1 b2 b3 b4 Q Z bk=>wY ?_) (args_zip_next_1 _))));refine⟨_,rfl,wpAny_letOwnedTupleGo_zip (s:={ s with heap:=h' }) b1 λh2 R s2=>?_⟩;have G:Heap.SameBut z h' h2:=s2;have S:∀b o,b∉[z,TI,TO,i1,i2]->s.heap.get? b=some o->h2.get? b=some o:=λb o hb e=>
   G.extBut _ _ (λq=>hb (by simp[q])) (bk b o (λq=>hb (by simp[q])) (λq=>hb (by simp[q])) (λq=>hb (by simp[q])) (λq=>hb (by simp[q])) e)
  have V:s.heap.objs.size≠z:=(lt hz).symm;have new:bP X.prog X.w (upd H s.heap.objs.size (.tup [x,y])) h2 s.heap.objs.size (.tup [x,y]):=⟨by show 2<=sizeLine;decide,[u,v],.cons ru (.cons N .nil),⟨_,G.extBut _ _ V Q,rfl,_,rfl⟩⟩;refine⟨.ref s.heap.objs.size,upd H s.heap.objs.size (.tup [x,y]),?_,rfl,⟨_,x,y,rfl,fresh,rfl,λzs hq=>by rw[mQ.inj I hq l];exact hx,λzs hq=>by rw[mQ.inj I hq m];exact hy⟩,?_,λb hb=>?_⟩
  .exact Dz (s:=s) (t':=s.toks) I hf S (vT _) new
  .exact⟨R,G.extBut _ _ D.tz (bk _ _ D.tz D.to D.ta D.tb U),⟨_,_,G.extBut _ _ D.oz b2⟩,b3.upon λo e=>G.extBut _ _ D.az e,b4.upon λo e=>G.extBut _ _ D.bz e⟩
  .have W:b≠s.heap.objs.size:=by
    grind
   rw[aK W];exact(hf b hb).1
 done:=by
  intro X n hw p hc i ag s σ H E I hf st r;subst n hw p;obtain⟨hz,U,⟨a,c,f⟩,M,O⟩:=st;obtain⟨xs,ys,l,m,hl⟩:=r;obtain⟨its,t,A,F⟩:=l.vals I;obtain⟨J,B,p2,L⟩:=m.vals I;have j:s.TypeIs (.ref z) "zip":=⟨_,hz,rfl⟩;have n1:=t.length;have n2:=B.length;unfold pyNext;refine wX (wpAny_attempt (wpAny_callSpecial?_slot (name:=Str.ofString "__next__") j slot_zip_next (wpAny_call_entry slot_zip_next j entry_zip_next (Dy (I.ok.hd hc) D m1 m2 hz U f M O A p2 (hl.imp (λq=>by simp;lia) λq=>by simp;lia) λh' x hk hX=>?_) (args_zip_next_1 _))));obtain⟨o,Y,co⟩:=hX;refine wX (wpAny_isInstance (T:="StopIteration") (b:=true) ⟨o,Y,co⟩ isSubtype_stop (wY ⟨rfl,?_⟩));exact mh (t':=s.toks) I hf λb o hb e=>hk b o (λq=>hb (by simp[q])) (λq=>hb (by simp[q])) (λq=>hb (by simp[q])) (λq=>hb (by simp[q])) e
 self:=λ_ _ _ _ _ st h=>wpAny_pyIter_zip st.1 h
section
variable {X:Cx}{a b e:Expr}{pos:Pos}{p:Pos}
theorem MO:bootBuiltins "zip" = some (.type "zip"):=Z9
def R9 (K:Frag)(ta:TA):TI:=λσ H R=>ta σ H λvs G=>∃(k1 k2:Bool)(l1 l2:Addr)(xs ys:LV),vs=[.ref l1,.ref l2]/\mQ k1 K G l1 xs/\mQ k2 K G l2 ys/\R (Uv K k1 k2 l1 l2) G
theorem O5 {es:QD}{f:Nat}{pt:Pos}{ta:TA}(g:Gl X "zip")(hm:X.mg "zip" = none)(ha:PA X [a,b] ta)(hs:starEach [a,b] X.env=[(false,eval a X.env),(false,eval b X.env)]:=by rfl)(O:starEach [b] X.env=[(false,eval b X.env)]:=by rfl):
  PI X (.Tuple es f pt) (.Call (.Name "zip" p) [a,b] [] pos) (R9 X.K ta):=by
 intro ag s σ H R I h;refine Call_ (hV I g hm MO (PyProof.Rows.callWith_type1 (c7 (ha _ _ s σ H _ I h) λus s1 ⟨vs,i,T,j,k⟩=>?_) (by rw[hs,O]) (by rw[O];rfl)));obtain⟨k1,k2,l1,l2,xs,ys,rfl,h1,h2,q⟩:=k;obtain⟨v,w,rfl,m,o⟩:=j.two;cases m
 cases o
 obtain⟨its,x,c,y⟩:=h1.vals T;obtain⟨z,A,p2,B⟩:=h2.vals T;have Gv:=c.lt;have G:=p2.lt;refine Dx c p2 λh' d c2 c3 r t u=>?_;have D:ZApart (s1.heap.objs.size+4) (s1.heap.objs.size+2) (s1.heap.objs.size+3) s1.heap.objs.size (s1.heap.objs.size+1):=by
  constructor<;>(simp)
 have M:∀ {l:Addr}(n:Nat),l<s1.heap.objs.size->l≠s1.heap.objs.size+n:=λn hl=>vS (vQ hl (Nat.le_add_right _ n));refine wpAny_pyIter_zip d ⟨s1.heap.objs.size+4,[s1.heap.objs.size+4,s1.heap.objs.size+2,s1.heap.objs.size+3,s1.heap.objs.size,s1.heap.objs.size+1],_,_,i,rfl,T.kept  u,
  Hv D ⟨M 4 Gv,M 3 Gv,M 0 Gv⟩ ⟨M 4 G,M 3 G,M 0 G,M 1 G⟩,⟨d,c2,⟨_,_,c3⟩,r,t⟩,λb hb=>?_,q⟩
 have U:s1.heap.objs.size<=b:=by
  grind
 exact T.fpOk U (T.hok.fresh U)
noncomputable def jG (xs ys:LD):LD:=List.zipWith (λx y=>.tup [x,y]) xs ys
@[simp] def Fd (fa G:FE):FA:=λρ=>(fa ρ).bind λx=>(G ρ).bind λy=>(iu x.1).bind λxs=>(iu y.1).map λys=>jG xs ys
theorem zS {K:Frag}{B:Hp}{v:V}{d:D}{ds:LD}(h:Is K B v d)(e:iu d=some ds):∃k a vs,v=.ref a/\mQ k K B a vs/\IsL K B vs ds:=by
 cases h with
 |tup G hl=>cases e;exact⟨false,_,_,rfl,G,hl⟩
 |lst G hl=>cases e;exact⟨true,_,_,rfl,G,hl⟩
 |_=>cases e
theorem O6 {H s}(I:Inv X ag σ H s)(h1:mQ k1 X.K N l1 vs)(i1:IsL X.K N vs ds)(h2:mQ k2 X.K N l2 ws)(i2:IsL X.K N ws es):pq X.K (Uv X.K k1 k2 l1 l2) N (jG ds es):=by
 intro i H' G;have n1:=i1.length;have n2:=i2.length;refine⟨λd ed=>?_,λhl=>⟨vs,ws,h1.same G,h2.same G,?_⟩⟩
 .unfold jG at ed;rw[List.getElem?_zipWith]at ed;cases M:ds[i]? with
  |none=>rw[M]at ed;simp at ed
  |some x=>
   cases e2:es[i]? with
   |none=>rw[M,e2]at ed;simp at ed
   |some y=>
    rw[M,e2]at ed;simp at ed;subst ed;obtain⟨v,ev,iv⟩:=i1.get M;obtain⟨w,U,g⟩:=i2.get e2;refine⟨⟨vs,ws,v,w,h1.same G,h2.same G,ev,U⟩,λr H2 hy=>?_⟩;obtain⟨T,j,k,rfl,h,rfl,f1,f2⟩:=hy;have c:=f1 vs (h1.same G);have f:=f2 ws (h2.same G);rw[ev]at c;cases c;rw[U]at f;cases f;have O:=Ext.laid (o:=.tup [v,w]) G h;exact⟨_,O,.tup (jw.of a8) (.cons (iv.mono O.bn) (.cons (g.mono O.bn) .nil))⟩
 grind[jG]
theorem Hw {es:QD}{f:Nat}{pt:Pos}{fa d:FE}(hm:X.mg "zip" = none)(ha:JE X a fa)(hb:JE X b d)(g:Gl X "zip":=by rfl)(hs:starEach [a,b] X.env=[(false,eval a X.env),(false,eval b X.env)]:=by rfl)(M:starEach [b] X.env=[(false,eval b X.env)]:=by rfl):
  JI X (.Tuple es f pt) (.Call (.Name "zip" p) [a,b] [] pos) (Fd fa d):=by
 intro ag s σ H R I q;refine O5 g hm (ak ha (ak hb am M) (by rw[hs,M])) hs M _ s σ H R I ?_;obtain⟨B,ρ,ds,h,r,G,q⟩:=q;obtain⟨i,ex,G⟩:=oX G;obtain⟨j,k,G⟩:=oX G;obtain⟨xs,O,G⟩:=oX G;obtain⟨ys,T,G⟩:=oY G;subst G;refine⟨B,ρ,[i.1,j.1],h,r,by simp[ex,k],λvs l N1 U i1=>?_⟩;cases i1 with
 |cons m c=>
  cases c with
  |cons c n=>
   cases n
   obtain⟨k1,l1,us,rfl,s1,m1⟩:=zS m O;obtain⟨k2,l2,ws,rfl,s2,m2⟩:=zS c T;exact⟨k1,k2,l1,l2,us,ws,rfl,s1.same U.nh,s2.same U.nh,q _ l N1 U (O6 I s1 m1 s2 m2)⟩
end
noncomputable def unown1 (ρ:Env)(i:Nat):Env:=match ρ[i]? with
 |some (some (d,true))=>ρ.set i (some (d,false))
 |_=>ρ
theorem eN.unown1 {K:Frag}{B0 H0 N H:Hp}{σ:St}{ρ:Env}(s:eN K B0 H0 N H σ ρ)(i:Nat):eN K B0 H0 N H σ (unown1 ρ i):=by
 unfold DL.unown1;split
 .rename_i d hd;obtain⟨a,ob,h1,h2,h3,h4⟩:=s.ow i d hd;have get:∀ {j:Nat}{e:D}{b:Bool},(ρ.set i (some (d,false)))[j]? = some (some (e,b))->(i=j/\e=d/\b=false)\/(i≠j/\ρ[j]? = some _):=λq=>by
   rcases cm q with⟨z,p⟩|⟨z,p⟩
   .cases p;exact .inl ⟨z,rfl,rfl⟩
   .exact .inr ⟨z,p⟩
  have o:∀c,own σ (ρ.set i (some (d,false))) c->own σ ρ c/\c≠a:=λc ⟨j,e,O,M⟩=>by
   rcases get O with⟨_,_,z⟩|⟨ne,q⟩
   .cases z
   .exact⟨⟨j,e,q,M⟩,λz=>by subst z;exact ne (s.inj i j _ _ _ hd q h1 M)⟩
  have c:bc (gg N (own σ ρ)) _:=fz λb u e q=>⟨e,λz=>q (o b z).1⟩;have T :=λz=>(o a z).2 rfl;refine⟨s.bh,s.tb,s.ext,by rw[length_set];exact s.len,λj e q=>?_,λj e q=>?_,λj k b e f q G U g=>?_⟩
  .rcases get q with⟨rfl,rfl,_⟩|⟨_,q⟩
   .exact⟨_,h1,(h4.mono c).is (by rw[dD T];exact h2)⟩
   .obtain⟨v,k1,k2⟩:=s.sh j e q;exact⟨v,k1,k2.mono c⟩
  .rcases get q with⟨_,_,z⟩|⟨_,q⟩
   .cases z
   .obtain⟨h,o',k1,k2,k3,k4⟩:=s.ow j e q;exact⟨h,o',k1,k2,k3,k4.mono c⟩
  .rcases get q with⟨_,_,z⟩|⟨_,q⟩
   .cases z
   .rcases get G with⟨_,_,z⟩|⟨_,G⟩
    .cases z
    .exact s.inj j k b e f q G U g
 .exact s
@[simp] noncomputable def O7 (is:LN)(g:FS):FS:=λρ=>g (is.foldl unown1 ρ)
theorem eN.unowns {K:Frag}{B0 H0 N H:Hp}{σ:St}:∀(is:LN){ρ:Env},eN K B0 H0 N H σ ρ->eN K B0 H0 N H σ (is.foldl DL.unown1 ρ)
 |[],_,s=>s
 |i::is,_,s=>eN.unowns is (s.unown1 i)
theorem O8 {K:Frag}{is:LN}{g:FS}{E:Ends}{σ:St}{H:Hp}(q:pb K (O7 is g) E σ H):pb K g E σ H:=by
 obtain⟨B0,H0,ρ,r,⟨N,s⟩,e,p⟩:=q;exact⟨B0,H0,_,r,⟨N,s.unowns is⟩,e,p⟩
theorem Hx {X:Cx}{st:Stmt}{g:FS}(is:LN)(h:JS X st g):JS X st (O7 is g):=PS.to h λ_ _ _ q=>O8 q
@[simp] noncomputable def MP:FS:=λρ=>some (.ct ρ)
@[simp] noncomputable def Ca:FS:=λ_=>none
section
variable {X:Cx}{pos:Pos}
theorem Ld:JS X (.Continue pos) MP:=PS.to zp λE σ H q=>by
 obtain⟨B0,H0,ρ,r,s,e,p⟩:=q;cases e
 exact p σ H s
theorem zU {st:Stmt}:JS X st Ca:=λag s σ H E I q=>by
 obtain⟨B0,H0,ρ,r,_,e,_⟩:=q;cases e
end
inductive CRows (K:Frag)(P:Params):List DictEntry->List (Str×D)->Prop where
 |nil:CRows K P [] []
 |tup {x:Str}{t:Tok}{h:Int}{a:Addr}{its:Array Value}{n:Nat}{mv:Array (Option Value)}{ds:List D}{r:List DictEntry}{aR:List (Str×D)}(hh:h=PyData.keyHash P x)
   (l:K.lookup a=some ⟨.type "tuple",none,.seq its n,mv⟩) (f:(decide (its.size<=1000) && kh its.toList ds)=true) (tl:CRows K P r aR):CRows K P (⟨h,.str x t,.ref a⟩::r) ((x,.tup ds)::aR)
 |flat {x:Str}{t:Tok}{h:Int}{u:Value}{d:D}{r:List DictEntry}{aR:List (Str×D)}(hh:h=PyData.keyHash P x) (f:yo u d=true) (tl:CRows K P r aR):CRows K P (⟨h,.str x t,u⟩::r) ((x,d)::aR)
theorem CRows.lit {K:Frag}{P:Params}:∀ {es:List DictEntry}{aR:List (Str×D)},CRows K P es aR->PySem.W.KeysLit P es
 |_,_,.nil=>trivial
 |_,_,.tup hh _ _ tl=>⟨⟨_,_,rfl,hh⟩,tl.lit⟩
 |_,_,.flat hh _ tl=>⟨⟨_,_,rfl,hh⟩,tl.lit⟩
theorem CRows.find {K:Frag}{P:Params}(y:Str):∀ {es:List DictEntry}{aR:List (Str×D)},CRows K P es aR->match aR.lookup y with
  |none=>es.find? (λe=>Value.isStrOf y e.key)=none
  |some d=>∃e v,es.find? (λe=>Value.isStrOf y e.key)=some e/\aX v e.val/\∀B,Is K B v d
 |_,_,.nil=>rfl
 |_,_,.tup (x:=x) (t:=t) (a:=a) (ds:=ds) hh l f tl=>by
  by_cases e:y=x
  .subst e;rw[lookup_cons_self];rw[vC]at f;obtain⟨vs,r,i⟩:=ki (K:=K) f.2;exact⟨_,.ref a,List.find?_cons_of_pos (by simp[Value.isStrOf]),rfl,λB=>.tup (.inr ⟨_,_,_,l,rfl,rfl,le_of_lt (lt_of_le_of_lt (Ss f.1) V9),r⟩) (i B)⟩
  .have ih:=tl.find y;rw[lookup_cons,beq_eq_false_iff_ne.mpr e];have G:Value.isStrOf y (Value.str x t)=false:=by
    rw[Bool.eq_false_iff];intro z;obtain⟨t',q⟩:=Value.isStrOf_shape z;simp_all
   simp only[find?_cons,G];exact ih
 |_,_,.flat (x:=x) (t:=t) (u:=u) (d:=d) hh f tl=>by
  by_cases e:y=x
  .subst e;rw[lookup_cons_self];obtain⟨v,O,_⟩:=ma (K:=K) (B:=λ_=>none) f;refine⟨_,v,List.find?_cons_of_pos (by simp[Value.isStrOf]),O,λB=>?_⟩;obtain⟨T,M,b⟩:=ma (K:=K) (B:=B) f;have:T=v:=by have U:=O.abs;rw[M.abs]at U;simp_all
   simp_all
  .have ih:=tl.find y;rw[lookup_cons,beq_eq_false_iff_ne.mpr e];have G:Value.isStrOf y (Value.str x t)=false:=by
    rw[Bool.eq_false_iff];intro z;obtain⟨t',q⟩:=Value.isStrOf_shape z;simp_all
   simp only[find?_cons,G];exact ih
def nW (K:Frag)(P:Params)(a:Addr)(aR:List (Str×D)):Prop:=∃es n,K.lookup a=some ⟨.type "dict",none,.dict es n,#[]⟩/\CRows K P es.toList aR/\(a == sysModules)=false
theorem const_dict {K:Frag}{P:Params}{y:Str}{a:Addr}{es:Array DictEntry}{n:Nat}{aR:List (Str×D)}(e:nsIn K mainGlobals y=some (some (.ref a)))(l:K.lookup a=some ⟨.type "dict",none,.dict es n,#[]⟩)(r:CRows K P es.toList aR)(s:(a == sysModules)=false):
  ∃a,nsIn K mainGlobals y=some (some (.ref a))/\nW K P a aR:=⟨a,e,es,n,l,r,s⟩
section
variable {X:Cx}{a b e:Expr}{pos:Pos}{x:Str}{p:Pos}
theorem nW.map {ag:AO}{σ:St}{H:Hp}{s:Shared}{d:Addr}{aR:List (Str×D)}(I:Inv X ag σ H s)(h:nW X.K X.w.params d aR):∃f:SV,s.heap.MapOf (strKind X.prog X.w) d f/\(d == sysModules)=false /\
  ∀y,match aR.lookup y with|none=>f y=none|some dd=>∃u v,f y=some u/\aX v u/\∀B,Is X.K B v dd:=by
 obtain⟨es,n,l,r,G⟩:=h;refine⟨_,PySem.W.mapOf_K I.kIn l r.lit,G,λy=>?_⟩;have:=r.find y;have M:findBy Value.isStrOf es y=(es.toList.find? λe=>Value.isStrOf y e.key).map (·.val):=by
  simp_all[findBy]
 cases hl:aR.lookup y with
 |none=>simp_all
 |some dd=>
  rw[hl]at this;obtain⟨en,v,O,e2,T⟩:=this;exact⟨en.val,v,by rw[M,O];rfl,e2,T⟩
@[simp] noncomputable def vj (aR:List (Str×D)):D->OB
 |.str y=>(aR.lookup y).map λd=>(d,false)
 |_=>none
@[simp] noncomputable def Cb (aR:List (Str×D)):D->OB
 |.str y=>some (.bl (!(aR.lookup y).isSome),false)
 |_=>none
theorem yp (h:∃d,X.mg x=some (.ref d)/\nW X.K X.w.params d aR)(hb:JE X b f)(i:Gl X x:=by rfl)(hd:(x == ("__debug__" : Str))=false:=by decide)(hs:qQ b:=by intro _ _;rfl):JE X (.Subscript (.Name x p) b pos) (f1 (vj aR) f):=by
 obtain⟨d,hm,cd⟩:=h;have j:GF X (λx y H Q=>∃z dd,x=.ref d/\y=.str z/\aR.lookup z=some dd/\∀v,(∀B,Is X.K B v dd)->Q v H):=by
  intro M O ag s σ H x y v u Q I k l q hs;obtain⟨z,dd,rfl,rfl,m,q⟩:=q;cases k
  obtain⟨t,rfl⟩:=l;obtain⟨f,c,A,hf⟩:=cd.map I;have:=hf z;rw[m]at this;obtain⟨u,v,T,e2,n⟩:=this;exact tail_any c.typeIs slot_dict_getitem.lookup (wpAny_getItem_of (strKind_is X.prog X.w z t) c T ⟨v,H,I.tok _,e2,q v n⟩) hs
 refine PE.to (GG j (qP (v:=.ref d) i hm rfl hd) hb hs) λσ H Q q=>?_;obtain⟨B,ρ,d',bb,o,r,G,q⟩:=q;obtain⟨U,ex,G⟩:=oX G;refine⟨B,ρ,U.1,U.2,o,r,ex,λv C N1 g i1 _=>?_⟩;obtain⟨xd,D⟩:=U;cases i1<;>try (simp[vj]at G;done)
 rename_i z _;obtain⟨dd,T,e2⟩:=oY G;cases e2
 exact⟨z,_,rfl,rfl,T,λv hv=>(q.into g).one g.nh (hv _)⟩
@[simp] noncomputable def yq:LD->OB
 |[.lst ds]=>some (.lst ds,true)
 |[.tup ds]=>some (.lst ds,true)
 |_=>none
@[simp] noncomputable def rM:LD->OB
 |[.lst ds]=>some (.tup ds,false)
 |[.tup ds]=>some (.tup ds,false)
 |_=>none
theorem Hy:cn X (.type "list") (Di X.K yq):=by
 refine cn.to xV λxs H Q q=>?_;obtain⟨B,ds,d,bb,O,i,M,q⟩:=q;cases i with
 |nil=>simp  at M
 |cons i1 i2=>
  cases i2 with
  |cons _ _=>cases i1<;>simp  at M
  |nil=>
   cases i1<;>try (simp  at M;done)
   .rename_i T vs es h hl;cases M
    refine⟨_,_,rfl,.inr (bw O h),λl hp=>?_⟩;have G:=Ext.laid (o:=.lst vs) O hp;exact q _ _ _ G (.lst (ii.of a8) (hl.mono G.bn)) λ_=>⟨_,_,_,rfl,rfl,hp,a8,hl.mono G.bn⟩
   .rename_i T vs es h hl;cases M
    refine⟨_,_,rfl,.inl (O.seq h),λl hp=>?_⟩;have G:=Ext.laid (o:=.lst vs) O hp;exact q _ _ _ G (.lst (ii.of a8) (hl.mono G.bn)) λ_=>⟨_,_,_,rfl,rfl,hp,a8,hl.mono G.bn⟩
theorem D0:cn X (.type "tuple") (Di X.K rM):=by
 refine cn.to vg λxs H Q q=>?_;obtain⟨B,ds,d,bb,G,i,M,q⟩:=q;cases i with
 |nil=>simp  at M
 |cons i1 i2=>
  cases i2 with
  |cons _ _=>simp_all
  |nil=>
   cases i1<;>try (simp  at M;done)
   .rename_i T vs es h hl;cases M
    exact⟨_,_,rfl,.inr ⟨bw G h,q.one G (.tup h hl)⟩⟩
   .rename_i T vs es h hl;cases M
    refine⟨_,_,rfl,.inl ⟨G.seq h,λl hp=>?_⟩⟩;have O:=Ext.laid (o:=.tup vs) G hp;exact q _ _ _ O (.tup (jw.of a8) (hl.mono O.bn)) N9
end
section
variable {X:Cx}{a b e:Expr}{pos:Pos}{x:Str}{p:Pos}
@[simp] def Le (i:Nat)(G M:FE):FS:=λρ=>match ρ[i]? with
 |some (some (.lst ds,true))=>(M ρ).bind λv=>(G ρ).bind λk=>match k.1 with
  |.int j=>(GD ds.length j).bind λn=>if bC v.1=true then some (.nx (ρ.set i (some (.lst (ds.set n v.1),true))))else none
  |_=>none
 |_=>none
theorem O9 (hv:JE X e fv)(hk:JE X k fk)(d:X.N[i]? = some y:=by rfl)(M:Nw X.env.scope y:=by first|exact Or.inl rfl|exact Or.inr (Or.inl rfl)|exact Or.inr (Or.inr rfl))(hd:(y == ("__debug__" : Str))=false:=by decide)
  (T:(y == ("__classdict__" : Str))=false:=by decide)
  (ha:∀v,assign (.Subscript (.Name y py) k pt) X.env v=(do
   let O <-holding [v] (eval (.Name y py) X.env)
   let iv <-holding [v,O] (eval k X.env)
   standAt pt
   holding [v,O,iv] (setItem O iv v)
   release [v,O,iv] []):=by intro _;rfl)
  (hs:swapsWithSole [.Subscript (.Name y py) k pt] e pos.line X.env=pure false:=by rfl) (hw:swappedStores [.Subscript (.Name y py) k pt] e X.env=pure none:=by rfl)
  (h1:(assignEach [.Subscript (.Name y py) k pt] X.env).map (·.2)=[assign (.Subscript (.Name y py) k pt) X.env]:=by rfl):JS X (.Assign [.Subscript (.Name y py) k pt] e pos) (Le i fk fv):=by
 refine PS.to (NL hv (NK (rh d M hd T) hk GI ha) hs hw h1) λE σ H q=>?_;obtain⟨B0,H0,ρ,r,⟨N,s⟩,G,p⟩:=q;unfold Le at G;split at G
 .rename_i ds ei;obtain⟨v,ev,G⟩:=oX G;obtain⟨f,ek,G⟩:=oX G;obtain⟨kd,m⟩:=f;cases kd with
  |int j=>
   obtain⟨n,en,G⟩:=oX G;split at G
   .rename_i hn;cases G
    refine⟨N,ρ,v.1,v.2,s.ext.nh,s.rep,ev,λo t N1 g i1 _=>?_⟩;have s1:=s.grow g;obtain⟨l,vs,U,z,h1,h2,h3,h4⟩:=s1.owL i _ ei;refine⟨_,h1,N1,ρ,_,_,s1.ext.nh,s1.rep,ek,λkv H2 N2 c i2 _=>?_⟩;cases i2
    have s2:=s1.grow c;obtain⟨u,h,U,z,k1,k2,k3,k4⟩:=s2.owL i _ ei;cases z
    rw[h1]at k1;cases k1;exact⟨l,h,j,n,rfl,rfl,s2.ext.nh _ _ k2,by rw[k4.length];exact en,p σ _ ⟨_,s2.write ei h1 (IsL.set (s2.flat (i1.mono c.bn) hn) n k4)⟩⟩
   .cases G
  |_=>cases G
 simp_all
@[simp] def Hz (i:Nat)(f:FE):FS:=λρ=>match ρ[i]? with
 |some (some (.lst ds,true))=>(f ρ).bind λx=>match x.1 with
  |.lst es=>if x.2=true/\b8 es=true/\ds.length+es.length<=sizeLine then some (.nx (ρ.set i (some (.lst (ds++es),true))))else none
  |_=>none
 |_=>none
theorem OA (he:JE X e f)(g:PE X (.Name y py) (qH i):=by exact pv)
  (M:attributeBase (.Name y py) "extend" X.env (eval (.Name y py) X.env)=eval (.Name y py) X.env:=by rfl)
  (T:((backTo cj (starEach [e] X.env)).all (λx=>!x.1) && (backToKw cj (keywordEach [] X.env)).all (λx=>x.1.isSome)
   && decide ([e].length+([]:List Keyword).length+(if([]:List Keyword).isEmpty then 0 else 1)<30))=true:=by rfl)
  (O:(di.endLine == cj.line)=true:=by rfl) (hs:starEach [e] X.env=[(false,eval e X.env)]:=by rfl) (U:swapsWith (.Call (.Attribute (.Name y py) "extend" di) [e] [] cj) none pos.line X.env=pure false:=by rfl):
  JS X (.Expr (.Call (.Attribute (.Name y py) "extend" di) [e] [] cj) pos) (Hz i f):=by
 refine PS.to (CT (zr plainAttrs_list PySem.F.slot_list_extend PySem.F.type_list_extend EQ g (fF he hW hs) M T O hs rfl) U) λE σ H q=>?_;obtain⟨B0,H0,ρ,r,⟨N,s⟩,G,p⟩:=q;unfold Hz at G;split at G
 .rename_i ds ei;obtain⟨v,ev,G⟩:=oX G;obtain⟨h,n⟩:=v;cases h with
  |lst es=>
   dsimp  at G;split at G
   .rename_i hc;cases G
    obtain⟨l,vs,j,z,h1,h2,h3,h4⟩:=s.owL i _ ei;refine⟨_,h1,.inl ⟨rfl,vs,ii.of (s.ext.nh _ _ h2)⟩,N,ρ,_,_,s.ext.nh,s.rep,ev,λo t N1 c i1 f1=>?_⟩;obtain⟨l2,ws,u,rfl,z,g1,k,d⟩:=f1 hc.1;cases z
    have s1:=s.grow c;obtain⟨w,m,j,z,k1,k2,_,k4⟩:=s1.owL i _ ei;cases z
    rw[h1]at k1;cases k1;exact⟨l,l2,m,ws,rfl,rfl,s1.ext.nh _ _ k2,c.nh _ _ k,by rw[k4.length,d.length];exact hc.2.2,p σ _ ⟨_,s1.write ei h1 (k4.append (s1.flats d hc.2.1))⟩⟩
   .cases G
  |_=>cases G
 simp_all
end
open AutoSeq1 (wpAny_loadPart')
noncomputable def VZ (k:Bool):String:=if k=true then "list" else "tuple"
theorem zV (k:Bool)(l:Addr)(items:AV)(n:Nat)(G:Option Addr)(sl:Array (Option Value)):
  Meets (Builtin.«enumerate.__new__» ⟨[.type "enumerate",.ref l],[]⟩) (λ_ R s=>s.heap.get? l=some { cls:=.type (VZ k),dict:=G,data:=.seq items n,slots:=sl } /\
   R (.ok (.ret (.ref (s.heap.push (Lc k l)).objs.size))) { s with heap:=(s.heap.push (Lc k l)).push { cls:=.type "enumerate",data:=.fields #[.none,.bool false,.ref s.heap.objs.size,rawInt 0,.none,.none] } }) :=
 .of_wp λprog w A R s hs=>by
  obtain⟨hp,g,d,tk,os⟩:=s;obtain⟨hl,hs⟩:=hs;have O:=sub_enumerate;have M:mf k (Shared.heap ⟨hp,g,d,tk,os⟩) l items:=by cases k<;>exact⟨_,hl,rfl,n,rfl⟩
  wp_walk using wpAny_loadPart' hl;refine wpAny_stack_any λst=>wY ?_;split
  .rename_i c _ _ _ _ _;cases (c == Value.type _)
   .wp_walk using wpAny_loadPart' hl,nV M;exact⟨_,rfl,hs⟩
   .wp_walk using wpAny_loadPart' hl,nV M;exact⟨_,rfl,hs⟩
  .wp_walk using wpAny_loadPart' hl,nV M;exact⟨_,rfl,hs⟩
section
variable {prog:Program}{w:World}{A:Around}{E:QV}{s:Shared}
theorem HA (O:mf k s.heap l items)
  (q:∀h',IsEnum h' (s.heap.objs.size+1) s.heap.objs.size 0 .none->md k h' s.heap.objs.size l 0->(∀b o,s.heap.get? b=some o->h'.get? b=some o)->Q (.ref (s.heap.objs.size+1)) { s with heap:=h' }):
  wpAny (model prog w) A (call (.type "enumerate") [.ref l]) Q E s:=by
 have hh:∃(G:Option Addr)(sl:Array _)(n:Nat),s.heap.get? l=some { cls:=.type (VZ k),dict:=G,data:=.seq items n,slots:=sl }:=by
  cases k<;>(obtain⟨⟨c,G,dt,sl⟩,hl,hc,n,hd⟩:=O;subst hc;subst hd;exact⟨G,sl,n,hl⟩)
 obtain⟨G,sl,n,hl⟩:=hh;refine callType_new PySem.F.called_enumerate V9 (PySem.F.typeCall_enumerate_1 _) (PySem.F.newCall_enumerate_1 _) (λobj=>PySem.F.args_object_init_2 obj _) PySem.F.entry_enumerate_new (zV k l items n G sl) ⟨hl,?_⟩;have n1:(s.heap.push (Lc k l)).objs.size=s.heap.objs.size+1:=Heap.size_push ..;have M:((s.heap.push (Lc k l)).push { cls:=.type "enumerate",data:=.fields #[.none,.bool false,.ref s.heap.objs.size,rawInt 0,.none,.none] }).get? _=some _:=vY _ rfl;have g1:((s.heap.push (Lc k l)).push { cls:=.type "enumerate",data:=.fields #[.none,.bool false,.ref s.heap.objs.size,rawInt 0,.none,.none] }).get? _=some _:=vZ _ (vY _ (by cases k<;>rfl))
 rw[n1]at M;rw[n1];refine⟨⟨_,M,rfl⟩,q _ M ?_ λb o e=>vZ _ (vZ _ e)⟩;cases k<;>exact⟨_,g1,rfl,rfl⟩
theorem OC (U:A.handled=none)(it l:Addr)(G:l≠it)(items:AV):Draws prog w A it [it,l] items.size (λi v=>items[i]? = some v) (λi h=>md k h it l i/\mf k h l items) where
 live:=λi h st=>let ⟨o,e,_⟩:=st.1.ob;⟨o,e⟩
 frame:=λi h h' st O=>⟨st.1.upon λo e=>O it N9 o e,st.2.upon λo e=>O l N9 o e⟩
 item:=λi s Q E hi st q=>gD st.1 st.2 (v:=items[i]) (by simp ) λh' M T=>q _ h' _ (by simp ) ⟨M,st.2.upon λo e=>T.extBut _ _ G e⟩ T
 done:=λs Q E st q=>jF U st.1 st.2 N9 q
theorem OD (M:A.handled=none)(it l:Addr)(items:AV)(n:Nat)(hn:items[n]? = none):Draws prog w A it [it,l] n (λ_ _=>True) (λi h=>(md k h it l i/\mf k h l items)/\i=n) where
 live:=λi h st=>let ⟨o,e,_⟩:=st.1.1.ob;⟨o,e⟩
 frame:=λi h h' st G=>⟨⟨st.1.1.upon λo e=>G it N9 o e,st.1.2.upon λo e=>G l N9 o e⟩,st.2⟩
 item:=λi s Q E hi st q=>absurd st.2 (vS hi)
 done:=λs Q E st q=>jF M st.1.1 st.1.2 hn q
end
noncomputable def Uw (K:Frag)(k:Bool)(a:Addr):It :=
  ⟨λi H=>∃xs x,mQ k K H a xs/\xs[i]? = some x,
   λi H v H'=>∃T x,v=.ref T/\H T=none/\H'=upd H T (.tup [.int i,x])/\∀xs,mQ k K H a xs->xs[i]? = some x,
   λi H=>∃xs,mQ k K H a xs/\xs.length<=i⟩
theorem Fe {P:Program}{w:World}{K:Frag}{es:QD}{n:Nat}{pt:Pos}{k:Bool}{a e it:Addr}(O:e≠it)(p:a≠e)(r:a≠it):
  Turn P w K (.Tuple es n pt) (Uw K k a) [e,it] e (λi h=>(∃G,IsEnum h e it i G)/\md k h it a i) where
 mem:=N9
 obj:=λi h st b hb=>by
  obtain⟨⟨G,he⟩,M⟩:=st;simp at hb;rcases hb with rfl|rfl
  .simp_all
  .exact M.ob
 keep:=λi h h' st c=>by
  obtain⟨⟨G,he⟩,M⟩:=st;exact⟨⟨G,c e N9 _ he⟩,M.upon λo q=>c it N9 o q⟩
 item:=by
  intro X f hw g hc i ag s σ H E I hf st j;subst f hw g;obtain⟨⟨G,he⟩,M⟩:=st;obtain⟨xs,x,d,hx⟩:=j;obtain⟨its,l,m,t⟩:=d.vals I;obtain⟨u,hu,ru⟩:=l.get hx;have fresh :=I.hok.fresh (vT _);have y:i<its.toArray.size:=by rw[vH];exact(vV hu).1
  have U:e≠s.heap.objs.size:=vS (vX he);have B:it≠s.heap.objs.size:=by obtain⟨o,q,_⟩:=M.ob;exact vS (vX q)
  refine wpAny_pyNext_enum_itemD (OC (A:=X.A.in1) (I.ok.hd hc) it a r its.toArray) he ⟨M,m⟩ y O (by simp[O,p.symm]) λv h' tk hv C D F hsz hk=>?_;have ev:v=u:=by
   simp_all
  subst ev;refine⟨_,rfl,wpAny_letOwnedTupleGo_enum  C λh2 J s2=>?_⟩;have T:Heap.SameBut e h' h2:=s2;have c:∀b o,b∉[e,it]->s.heap.get? b=some o->h2.get? b=some o:=λb o hb q=>T.extBut _ _ (λz=>hb (by simp[z])) (hk b o (λz=>hb (by simp[z])) (λz=>hb (by simp[z])) q);have new:bP X.prog X.w (upd H s.heap.objs.size (.tup [.int i,x])) h2 s.heap.objs.size (.tup [.int i,x]):=⟨by show 2<=sizeLine;decide,[.int i tk,v],.cons ⟨tk,rfl⟩ (.cons ru .nil),⟨_,T.extBut _ _ U.symm F,rfl,_,rfl⟩⟩;refine⟨.ref s.heap.objs.size,upd H s.heap.objs.size (.tup [.int i,x]),Dz (s:=s) (t':=tk+1) I hf c (vT _) new,rfl,⟨_,x,rfl,fresh,rfl,λzs hq=>by rw[mQ.inj I hq d];exact hx⟩,?_,λb hb=>?_⟩
  .exact⟨⟨_,by have:=J;exact this⟩,D.1.upon λo q=>T.extBut _ _ O.symm q⟩
  .have L:b≠s.heap.objs.size:=by
    simp at hb;rcases hb with rfl|rfl
    .exact U
    .exact B
   rw[aK L];exact(hf b hb).1
 done:=by
  intro X f hw g hc i ag s σ H E I hf st j;subst f hw g;obtain⟨⟨G,he⟩,M⟩:=st;obtain⟨xs,d,hl⟩:=j;obtain⟨its,l,m,t⟩:=d.vals I;have n1:=l.length;refine wpAny_pyNext_enum_endD (OD (A:=X.A.in1) (I.ok.hd hc) it a its.toArray i S9) he ⟨⟨M,m⟩,rfl⟩ λh' hk=>⟨rfl,?_⟩;exact mh (t':=s.toks) I hf λb o hb q=>hk b o (λz=>hb (by simp[z])) q
 self:=λ_ _ _ _ _ st h=>let ⟨⟨_,he⟩,_⟩:=st;wpAny_pyIter_enum he h
section
variable {X:Cx}{a b e:Expr}{pos:Pos}{p:Pos}
theorem zW:bootBuiltins "enumerate" = some (.type "enumerate"):=Z9
noncomputable def rN (ds:LD):LD:=ds.mapIdx λi d=>.tup [.int i,d]
@[simp] def rO (fa:FE):FA:=λρ=>(fa ρ).bind λx=>(iu x.1).map rN
theorem Lf {K:Frag}{N:Hp}{k:Bool}{l:Addr}{vs:LV}{ds:LD}(h1:mQ k K N l vs)(i1:IsL K N vs ds):pq K (Uw K k l) N (rN ds):=by
 intro i H' G;have n1:=i1.length;refine⟨λd ed=>?_,λhl=>⟨vs,h1.same G,?_⟩⟩
 .unfold rN at ed;rw[List.getElem?_mapIdx]at ed;obtain⟨x,U,rfl⟩:=oY ed;obtain⟨v,ev,iv⟩:=i1.get U;refine⟨⟨vs,v,h1.same G,ev⟩,λr H2 hy=>?_⟩;obtain⟨T,f,rfl,c,rfl,f1⟩:=hy;have M:=f1 vs (h1.same G);rw[ev]at M;cases M;have O:=Ext.laid (o:=.tup [.int i,v]) G c;exact⟨_,O,.tup (jw.of a8) (.cons (.int _) (.cons (iv.mono O.bn) .nil))⟩
 simp_all[rN]
theorem yr {es:QD}{g:Nat}{pt:Pos}{fa:FE}(hm:X.mg "enumerate" = none)(ha:JE X a fa)(h:Gl X "enumerate":=by rfl)(hs:starEach [a] X.env=[(false,eval a X.env)]:=by rfl):
  JI X (.Tuple es g pt) (.Call (.Name "enumerate" p) [a] [] pos) (rO fa):=by
 intro ag s σ H R I q;refine Call_ (hV I h hm zW (PyProof.Rows.callWith_type1 (c7 (ak ha am hs _ _ s σ H (λvs G=>∃(k:Bool)(l:Addr)(us:LV),vs=[.ref l]/\mQ k X.K G l us/\R (Uw X.K k l) G) I ?_) λus s1 ⟨vs,G,T,i,j⟩=>?_) hs rfl))
 .obtain⟨B,ρ,ds,m,r,M,q⟩:=q;obtain⟨n,ex,M⟩:=oX M;obtain⟨xs,U,M⟩:=oY M;subst M;refine⟨B,ρ,[n.1],m,r,by simp[ex],λvs G N1 c i1=>?_⟩;cases i1 with
  |cons o t=>
   cases t
   obtain⟨k1,l1,us,rfl,s1,m1⟩:=zS o U;exact⟨k1,l1,us,rfl,s1.same c.nh,q _ G N1 c (Lf s1 m1)⟩
 .obtain⟨k,l,ws,rfl,h1,q⟩:=j;obtain⟨w,rfl,u⟩:=i.one;cases u
  obtain⟨its,x,d,y⟩:=h1.vals T;have Gv:=d.lt;refine HA d λh' f c2 v=>?_;refine wpAny_pyIter_enum f ⟨s1.heap.objs.size+1,[s1.heap.objs.size+1,s1.heap.objs.size],_,_,G,rfl,T.kept  v,
   Fe (Nat.succ_ne_self _) (vS (lt_succ_of_lt Gv)) (vS Gv),⟨⟨_,f⟩,c2⟩,λb hb=>?_,q⟩
  have O:s1.heap.objs.size<=b:=by
   grind
  exact T.fpOk O (T.hok.fresh O)
end
end DL
namespace DL
open PySem PySem.Spec PyProof.Rows
theorem Ff (t:SetTable)(es:Array (Int×Value))(n:Nat):(relayAll t es n).2.1.led=t.led:=by
 unfold relayAll;split
 .rename_i t' G h;obtain⟨ow,_,h⟩:=oX h;cases h
  dsimp ;split<;>rfl
 .rfl
theorem zX (t:SetTable)(es:Array (Int×Value))(n:Nat)(hp:t.plain=false):(relayAll t es n).2.1.plain=false:=by
 unfold relayAll;split
 .rename_i t' G h;obtain⟨ow,_,h⟩:=oX h;cases h
  dsimp ;split
  .exact hp
  .rfl
 .rfl
theorem Lg (t:SetTable)(es:Array (Int×Value))(h:Int)(x:Value):(layNew t es h x).2.1.led=t.led:=by
 unfold layNew;split
 .dsimp  [SetTable.orStandIn];repeat' (first|rfl|split)
 .rfl
structure TabT (w:World)(es:Array (Int×Value))(t:SetTable):Prop where
 fits:t.fits es.size=true
 led:t.led = !w.params.followText "set-order"
 plain:es.size≠0->t.plain=false
def kj (prog:Program)(w:World)(h:Heap)(a:Addr)(G:LS):Prop :=
 ∃o es M t,h.get? a=some o/\o.ExactSet/\o.data=.set es M t/\ElemsOf (PySem.strKind prog w) es.toList/\(es.toList.map (λe=>strOf e.2)).Perm G/\G.Nodup/\G.length<scanBound/\TabT w es t
noncomputable def kZ (G:LS)(x:Str):LS:=if x∈G then G else G++[x]
theorem HB (G:LS)(x:Str):(kZ G x).length<=G.length+1:=by unfold kZ;split<;>simp
theorem zY (h:Value.isStrOf k v=true):strOf v=k:=by obtain⟨t,rfl⟩:=Value.isStrOf_shape h;rfl
section
variable {prog:Program}{w:World}{A:Around}{E:QV}{s:Shared}
theorem wx {es:Array (Int×Value)}{M:LS}(G:ElemsOf (PySem.strKind prog w) es.toList)(hp:(es.toList.map (λe=>strOf e.2)).Perm M)(k:Str):k∈M ↔ ∃e∈es.toList,(PySem.strKind prog w).is k e.2=true:=by
 rw[<-hp.mem_iff,List.mem_map];constructor
 .rintro⟨e,he,rfl⟩;obtain⟨⟨k',hk,_⟩,_⟩:=G e he;have O:Value.isStrOf k' _=true:=hk;grind[zY]
 .rintro⟨e,he,hk⟩;exact⟨e,he,zY hk⟩
theorem wy {h:Heap}{a:Addr}{o:Obj}{es:Array (Int×Value)}{M:Nat}{t:SetTable}(O:h.get? a=some o)(hd:o.data=.set es M t)(G:Array (Int×Value))(t':SetTable):
  (h.update a (Obj.putSet G t')).get? a=some { o with data:=.set G (M+1) t' }:=by
 have:=Heap.get?_update_self (Obj.putSet _ t') O (by rw[putSet_of G t' hd];rfl);rw[putSet_of _ t' hd]at this;exact this
theorem zZ {g:Bool->Sem Unit}(y:∀(b:Bool)(T:Shared)(j:Unit->Shared->Prop),j () T->wpAny (model prog w) A (g b) j E T)
  {a:Addr}{o:Obj}{es:Array (Int×Value)}{z:Nat}{t:SetTable}(k:s.heap.get? a=some o) (l:o.ExactSet) (hd:o.data=.set es z t)
  {G:Array (Int×Value)}{M:SetTable}{c:LS}(U:ElemsOf (PySem.strKind prog w) G.toList) (d:(G.toList.map (λe=>strOf e.2)).Perm c) (nd:c.Nodup)
  (hb1:c.length<scanBound) (B:M.fits G.size=true) (m:M.led = !w.params.followText "set-order") (n:M.plain=false) {O:Bool}{R:Option Bool->Shared->Prop}
  (h:∀h',Heap.SameBut a s.heap h'->kj prog w h' a c->R (some true) { s with heap:=h' }):
  wpAny (model prog w) A (do
    storeSet a G M
    if(!O && M.tooFull)=true then do
      g (relayAll M G (SetTable.grown G.size)).2.2
      storeSet a (relayAll M G (SetTable.grown G.size)).1 (relayAll M G (SetTable.grown G.size)).2.1
      pure (some true)
     else pure (some true)) R E s:=by
 have p:G.size=c.length:=by rw[<-d.length_eq,vI,vG]
 refine wX (wpAny_storeSet_of k hd ?_ (fits_of_scanBound (by rw[p];exact hb1)));have f:=wy k hd G M;have q:=vW s.heap a (Obj.putSet G M);split
 .have hp:=relayAll_perm M G (SetTable.grown G.size);have r:=relayAll_fits M G (SetTable.grown G.size);have u:=Ff M G (SetTable.grown G.size);have v:=zX M G (SetTable.grown G.size) n;generalize C:relayAll M G _=Rl at hp r u v |-;obtain⟨i,x,H⟩:=Rl;have D :=U.perm hp;have hsz:i.size=G.size:=by rw[<-vG,hp.length_eq,vG]
  refine wX (y _ _ _ ?_);refine wX (wpAny_storeSet_of f rfl ?_ (fits_of_scanBound (by rw[hsz,p];exact hb1)));have F:=wy f rfl i x;exact wY (h _ (q.trans (vW _ a _)) ⟨_,i,_,x,F,l,rfl,D,(hp.map _).trans d,nd,hb1,r,u.trans m,λ_=>v⟩)
 .exact wY (h _ q ⟨_,G,_,M,f,l,rfl,U,d,nd,hb1,B,m,λ_=>n⟩)
theorem Cc {a:Addr}{U:LS}{k:Str}{tk:Tok}{Q:Bool->Shared->Prop}(m:kj prog w s.heap a U)(C:U.length+1<scanBound)
  (h:∀b h',Heap.SameBut a s.heap h'->kj prog w h' a (kZ U k)->Q b { s with heap:=h' }):
  wpAny (model prog w) A (setAddHashed a (.str k tk) ((PySem.strKind prog w).hash k)) Q E s:=by
 have hS0:=m;obtain⟨o,es,N,t,i,n,hd,d,G,nd,hb,hf,p,P⟩:=m;have q :=strKind_is prog w k tk;have sz:es.size=U.length:=by rw[<-G.length_eq,vI,vG]
 refine wpAny_holding (wX (wpAny_setState_of i hd hf ?_));dsimp only;rw[byScan_of (x:=.str k tk) rfl (by rw[sz];exact hb) d];simp only[↓reduceIte];unfold setAddByScan;refine wX ?_;refine wX (wpAny_rule ?_);refine wX (wpAny_setScan_of q i hd hf d ?_);cases D:List.findIdx? _ es.toList with
 |some j=>
  dsimp only;obtain⟨hj,F,_⟩:=List.findIdx?_eq_some_iff_getElem.mp D;have hm:k∈U:=(wx d G k).mpr ⟨es.toList[j],getElem_mem hj,F⟩;refine wY (wY ?_);simp_all[kZ,Heap.SameBut.refl]
 |none=>
  dsimp only;have hm:k∉U:=λz=>by
   obtain⟨e,he,hp⟩:=(wx d G k).mp z;grind
  have H:kZ U k=U++[k]:=by unfold kZ;rw[if_neg hm]
  have I:∀(b:Bool){T:Shared}{f:Unit->Shared->Prop},f () T->wpAny (model prog w) A (match b with|true=>rule "set.scan.the-table-gave-way" | false=>pure ()) f E T :=
   λb T f hq=>by cases b<;>first|exact wY hq|exact wpAny_rule hq
  have M:=layNew_perm t es ((PySem.strKind prog w).hash k) (.str k tk);have O:=layNew_fits t es ((PySem.strKind prog w).hash k) (.str k tk);have l:=Lg t es ((PySem.strKind prog w).hash k) (.str k tk);generalize R:layNew t es ((PySem.strKind prog w).hash k) (.str k tk)=L at M O l |-;obtain⟨J,S,V,W⟩:=L;dsimp only at M O l |-;rw[Array.toList_push]at M;have r :=(d.push q rfl).perm M;have u:(J.toList.map (λe=>strOf e.2)).Perm (U++[k]):=(M.map _).trans (by rw[uW];exact G.append_right _);have v:(U++[k]).Nodup:=by
   rw[nodup_append];refine⟨nd,N9,λx hx y hy=>?_⟩;rw[mem_singleton]at hy;subst hy;exact λz=>hm (z ▸ hx)
  have hb1:(U++[k]).length<scanBound:=by rw[uZ];exact C
  refine wX (I _ ?_);have B :=λh' c g=>h true h' c (by rw[H];exact g);split
  .refine wX ?_;refine wY ?_;refine zZ ?_ i n hd r u v hb1 ?_ ?_ ?_ ?_
   .intro b T f hq;cases b<;>first|exact wY hq|exact wpAny_rule hq
   .exact SetTable.fits_plain_off O
   .exact l.trans p
   .rfl
   .intro h' c g;dsimp only;exact wY (B h' c g)
  .rename_i K;refine wX (wY ?_);simp only[↓reduceIte];refine zZ ?_ i n hd r u v hb1 O (l.trans p) (by simpa using K) ?_
   .intro b T f hq;cases b<;>first|exact wY hq|exact wpAny_rule hq
   .intro h' c g;dsimp only;exact wY (B h' c g)
end
noncomputable def gX (ss:LS):LS:=ss.foldl kZ []
theorem rP (h:G.Nodup)(x:Str):(kZ G x).Nodup:=by
 grind[kZ]
theorem Aa:y∈kZ G x↔y∈G\/y=x:=by
 unfold kZ;split
 .rename_i hm;exact⟨.inl,λz=>z.elim id λe=>e ▸ hm⟩
 .simp
theorem yt (ss:LS):∀G:LS,(ss.foldl kZ G).length<=G.length+ss.length:=by
 induction ss with
 |nil=>simp
 |cons x r ih=>grind[HB]
theorem nX (ss:LS):(gX ss).length<=ss.length:=by have:=yt ss [];simpa [gX]using this
theorem Fg (ss:LS)(x:Str):gX (ss++[x])=kZ (gX ss) x:=by simp_all[gX]
theorem StrsAre.at:∀ {vs:LU}{ss:LS},StrsAre vs ss->∀(i:Nat)(v:Value),vs[i]? = some v->∃x t,v=.str x t/\ss[i]? = some x
 |_,_,.nil,i,v,h=>by simp at h
 |_,_,.cons x t G,0,v,h=>by simp at h;exact⟨x,t,h.symm,rfl⟩
 |_,_,.cons x t G,i+1,v,h=>by
  exact StrsAre.at G i v h
theorem kj.at (x:kj prog w h a O)(k:∀o,h.get? a=some o->h'.get? a=some o):kj prog w h' a O:=by
 obtain⟨o,es,G,t,M,r⟩:=x;exact⟨o,es,G,t,k o M,r⟩
section
variable {prog:Program}{w:World}{A:Around}{R:Result->Shared->Prop}{I:Addr}{fp wr:List Addr}{G:Array GenState->Array GenState->Prop}{n:Nat}{P:Nat->Value->Prop}{St:Nat->Shared->Prop}
theorem yu (W:WalksS prog w A.in1 I fp wr G n P St)(S:Addr)(T:S∉fp)(ss:LS)(hn:ss.length=n)
  (U:∀i v,P i v->∃x t,v=.str x t/\ss[i]? = some x) (hb:n+1<scanBound):
  ∀(k i:Nat)(s:Shared),n - i=k->i<=n->St i s->kj prog w s.heap S (gX (ss.take i)) ->
   (∀s',Moved (S::wr) G s s'->kj prog w s'.heap S (gX ss)->R (.ok (.ret .none)) s') ->
   codeAny (model prog w) A (.builtin "set.update.loop" ⟨[.ref S,.ref I],[]⟩) R s:=by
 have j:S∉wr:=λh=>T (W.sub _ h);have M:∀b∈wr,b∈S::wr:=λb hb=>mZ _ hb;intro k;induction k with
 |zero=>
  intro i s hk hi O g hR;have m:i=n:=M9
  subst m;refine codeAny_builtin PyProof.Rows.F.entry_set_update_loop ?_;refine wX (W.done s _ _ O λs' hm=>?_);refine wY (hR s' (hm.mono M) ?_);rw[List.take_of_length_le M9]at g;exact g.at λo e=>hm.heap S _ j e
 |succ k ih=>
  intro i s hk hi O g hR;have l:i<n:=M9
  refine codeAny_builtin PyProof.Rows.F.entry_set_update_loop ?_;refine wX (W.item i s _ _ l O λv s' p a hm=>?_);obtain⟨x,t,rfl,hx⟩:=U i v p;have q:kj prog w s'.heap S (gX (ss.take i)):=g.at λo e=>hm.heap S _ j e;refine wX (wpAny_holding ?_);unfold setAdd;refine wpAny_holding ?_;refine wX ((PySem.strKind prog w).pyHash (k:=x) (strKind_is prog w x t) ?_);have hl:(gX (ss.take i)).length+1<scanBound:=by have:=nX (ss.take i);rw[length_take]at this;lia
  refine Cc (s:={ s' with toks:=s'.toks+1 }) q hl λb h' c y=>?_;have r:kj prog w h' S (gX (ss.take (i+1))):=by
   simp_all[take_add_one,Fg]
  refine wY ⟨plainId_quiet PyProof.Rows.F.plain_set_update_loop _,ih (i+1) _ M9 l (W.frame _ s' _ _ a (le_succ _) λb hb o e=>?_) r λu d f=>?_⟩
  .rw[c.2 b (λh:b=S=>T (by rw[<-h];exact hb))];exact e
  .refine hR u (Moved.trans W.gtrans ((hm.mono M).then_heap (le_succ _) λb o hb e=>?_) d) f;rw[c.2 b (λh:b=S=>hb (by rw[h];exact mX))];exact e
end
section
variable {prog:Program}{w:World}{A:Around}{E:QV}{s:Shared}
noncomputable abbrev fG (w:World):Obj:={ cls:=.type "set",dict:=none,data:=.set #[] 0 (.fresh 0 0 (!w.params.followText "set-order")) }
theorem Ab (a:Value) 
  (h:Q₁ (.ref s.heap.objs.size) { s with heap:=s.heap.push (fG w) }):
  codeAny (model prog w) A (.call (.builtin "set.__new__") ⟨[.type "set",a],[]⟩) (wants Q₁ E) s:=by
 refine codeAny_of_tree ?_;refine wX (wpAny_of_eq (PySem.F.newCall_set_1 a) (wY ⟨plainId_quiet PySem.F.plain_set_new _,codeAny_builtin PySem.F.entry_set_new ?_⟩));unfold Builtin.«set.__new__» Builtin.Frozenset.newClass;have G:=sub_set_self;wp_walk;refine wpAny_askSetting (wY ?_);refine wX (wpAny_alloc (wY ?_));exact wY h
set_option maxHeartbeats 3200000 in
theorem rQ 
  (hh:A.handled=none) (hl:s.heap.IsList l items) (hi:StrsAre items.toList ss) (hb:items.size+1<scanBound)
  (h:∀(h':Heap)(tk:Nat),kj prog w h' s.heap.objs.size (gX ss) ->
   (∀b o,b<s.heap.objs.size->s.heap.get? b=some o->h'.get? b=some o)->Q (.ref s.heap.objs.size) { s with heap:=h',toks:=tk }):
  wpAny (model prog w) A (call (.type "set") [.ref l]) Q E s:=by
 obtain⟨c,tl,Zu⟩:=called_set.mro;have WQ:=called_set.made;have Zv:=called_set.sub;refine wpAny_call (codeAny_of_tree ?_);show wpAny _ _ (callAny (.type "set") _) _ _ _;refine wY ⟨Code.quiet_builtin _ Z9,codeAny_builtin PySem.F.entry_type_call ?_⟩;rw[Around.under_plain (weight_type_call_type "set" [.ref l] []) rfl];have h1:=called_set.notType;have h2:=called_set.canCreate;have y:=PySem.F.typeCall_set_1 (.ref l);have B:ss.length=items.size:=by have:=hi.strs;grind
 repeat (any_goals (first|assumption|wp_step))
 refine codeAny_mono (Ab (.ref l) (E:=E) (Q₁:=λobj O=>obj=.ref s.heap.objs.size/\O={ s with heap:=s.heap.push (fG w) }) ⟨rfl,rfl⟩) λr O f=>?_;cases r with
 |error e=>exact f
 |ok fl=>
  cases fl with
  |ret obj=>
   obtain⟨rfl,rfl⟩:=f;have k:(s.heap.push (fG w)).get? s.heap.objs.size=some (fG w):=vY _ rfl;have C:Shared.TypeIs { s with heap:=s.heap.push (fG w) } (.ref s.heap.objs.size) "set":=⟨_,k,rfl⟩;have D:=called_set.init.lookup;have H:=called_set.init.bind (.ref s.heap.objs.size);repeat (any_goals (first|assumption|wp_step))
   refine codeAny_mono (codeAny_call_builtin (R:=wants (λr T=>r=.none/\∃h' tk,T={ s with heap:=h',toks:=tk } /\
     kj prog w h' s.heap.objs.size (gX ss) /\
     (∀b o,b<s.heap.objs.size->s.heap.get? b=some o->h'.get? b=some o)) E) called_set.init.plain PySem.F.entry_set_init (check_set_init_1 C ?_)) λd T G=>?_
   .obtain⟨I,m,n,p,q⟩:=hl;obtain⟨Zw,U,WR,M⟩:=I;simp only at n q;subst n;subst q;have J:(s.heap.push (fG w)).get? l=some { cls:=.type "list",dict:=U,data:=.seq items p,slots:=M }:=vZ _ m;have Zx:=PySem.F.sub_list_set;have Zy:=PySem.F.sub_list_frozenset;have Gw:(Value.type "list" == Value.type "dict")=false:=V9
    have u:(s.heap.push (fG w)).IsList l items:=⟨_,J,rfl,p,rfl⟩;unfold Builtin.«set.__init__» noKeywords Builtin.Frozenset.updateFrom;generalize g:pyIter=PI;wp_walk;subst g;refine wpAny_pyIter_list u ?_;refine wX (wpAny_runValue ?_);have K:l<s.heap.objs.size:=vX m;have L:A.in1.in1.in1.handled=none:=by simp[hh]
    have N:l≠(s.heap.push (fG w)).objs.size:=by
     simp_all[vS,lt_succ_of_lt]
    have P:s.heap.objs.size∉[(s.heap.push (fG w)).objs.size,l]:=by
     simp_all[ne_of_gt]
    have S:∀(i:Nat)(v:Value),items[i]? = some v->∃x t,v=.str x t/\ss[i]? = some x:=λi v hv=>
     StrsAre.at hi i v (by simp_all)
    refine yu ((Walks.list L _ l N items).toS) s.heap.objs.size
     P ss B S hb (items.size - 0) 0 _ M9 (uN _)
     ⟨⟨_,vY _ rfl,rfl,rfl⟩,(u.push _)⟩ ?hS0 ?hR
    case hS0=>
     have V:((s.heap.push (fG w)).push { cls:=.type "list_iterator",data:=.fields #[.ref l,.int 0 0] }).get? s.heap.objs.size
       = some (fG w):=vZ _ k
     exact⟨_,#[],0,_,V,⟨rfl,rfl,rfl⟩,rfl,λe he=>by simp at he,List.Perm.refl _,nodup_nil,(by show(0:Nat)<scanBound;decide),rfl,rfl,λz=>absurd rfl z⟩
    case hR=>
     intro s' hm j
     obtain⟨h',g',d',W,X⟩:=s'
     have Y:g'=s.gens:=hm.gens
     have ed:d'=s.drawn:=hm.drawn
     have Z:X=s.os:=hm.os
     subst Y;subst ed;subst Z
     show wpAny _ _ _ _ _ _
     refine wY ?_
     show wpAny _ _ (ret Value.none) _ _ _
     refine wY ⟨rfl,h',W,rfl,j,λb o hb e=>?_⟩
     have hb1:b≠s.heap.objs.size:=vS hb
     have hb2:b≠(s.heap.push (fG w)).objs.size:=by
      simp_all[vS,lt_succ_of_lt]
     exact hm.heap b o (by simp_all) (vZ _ (vZ _ e))
   .cases d with
    |error e=>exact G
    |ok a=>
     cases a with
     |ret r=>
      obtain⟨rfl,h',tk,rfl,j,Np⟩:=G;repeat (any_goals (first|assumption|wp_step))
      exact h _ _ j Np
     |_=>exact G.elim
  |_=>exact f.elim
end
open Sem (wp)
section
variable {M:Model}{A:Around}{E:QV}{s:Shared}
theorem Lh (hn:n≠0)(h:∀k d,k<n->Q k { s with drawn:=d }):wpAny M A (choose T n) Q E s:=by
 intro G p O;refine⟨hn,?_⟩;have:=h _ (s.drawn.bump T) (Nat.mod_lt (M.w.draws T (s.drawn.get T)) (Nat.pos_of_ne_zero hn));simpa using this
end
theorem nY {α:Type}:∀(l:List α)(i:Nat),i<l.length->(l.eraseIdx i).length=l.length - 1:=by grind
theorem mR {α:Type}:∀(l:List α)(i:Nat)(x:α),l[i]? = some x->(x::l.eraseIdx i).Perm l
 |[],i,x,h=>by simp at h
 |a::l,0,x,h=>by simp_all
 |a::l,i+1,x,h=>by
  exact(List.Perm.swap a x _).trans ((mR l i x h).cons a)
theorem D1 {α:Type}:∀(n:Nat)(xs:List α)(s:Shared)(Q:List α->Shared->Prop),xs.length=n->(∀ys d,ys.Perm xs->Q ys { s with drawn:=d })->wpAny M A (drawOrder n xs) Q E s
 |0,xs,s,Q,hl,h=>by
  have :=List.eq_nil_of_length_eq_zero hl;subst this;exact wY (h [] _ (List.Perm.refl _))
 |n+1,[],s,Q,hl,h=>by simp at hl
 |n+1,x::r,s,Q,hl,h=>by
  refine wX (Lh N9 λk d hk=>?_);obtain⟨y,hy⟩:∃y,(x::r)[k]? = some y:=⟨_,vU hk⟩;rw[hy];refine wX (D1 n _ _ _ (by rw[nY _ _ hk,hl];rfl) λys d' hp=>wY (h _ _ ((hp.cons y).trans (mR _ _ _ hy))))
theorem D2 {α:Type}(next:Nat->Nat):∀(fuel k:Nat)(left:List α)(out:Array α),left.length=fuel->(pickOrder.go next fuel k left out).toList.Perm (out.toList++left)
 |0,k,left,out,hl=>by
  simp_all[pickOrder.go]
 |fuel+1,k,left,out,hl=>by
  unfold pickOrder.go;have hk:next k % left.length<left.length:=Nat.mod_lt _ M9;obtain⟨y,hy⟩:∃y,left[next k % left.length]? = some y:=⟨_,vU hk⟩;rw[hy];refine(D2 _ _ _ _ _ (by rw[nY _ _ hk];lia)).trans ?_;rw[Array.toList_push,append_assoc];exact(mR _ _ _ hy).append_left _
theorem Fh {α:Type}(next:Nat->Nat)(xs:Array α):(pickOrder next xs).toList.Perm xs.toList:=by
 grind[D2,pickOrder]
theorem bI:Slot "set_iterator" "__next__" "set_iterator.__next__" :=
 .of (owner:="set_iterator") (n:="__next__") H9 Z9 Z9 Z9
  (by first|exact .inl Z9|exact .inr _) T9
theorem gp:entryFor table "set_iterator.__next__" = some Builtin.«set_iterator.__next__»:=entryFor_of_tree T9
theorem gP (a:Value):argsOk "set_iterator.__next__" ⟨[a],[]⟩:=T9
theorem mB:Slot "set_iterator" "__iter__" "set_iterator.__iter__" :=
 .of (owner:="set_iterator") (n:="__iter__") H9 Z9 Z9 Z9
  (by first|exact .inl Z9|exact .inr _) T9
theorem rR:entryFor table "set_iterator.__iter__" = some Builtin.«dict_keyiterator.__iter__» :=
 entryFor_alias (id':="dict_keyiterator.__iter__") T9 rfl Z9 T9
theorem vk (a:Value):argsOk "set_iterator.__iter__" ⟨[a],[]⟩:=T9
theorem qK:entryFor table "set.__iter__" = some Builtin.«frozenset.__iter__» :=
 entryFor_alias (id':="frozenset.__iter__") T9 rfl Z9 T9
noncomputable abbrev mS (G:Value)(i:Nat)(S:Addr)(n M:Nat):Obj:={ cls:=.type "set_iterator",data:=.fields #[G,.int i 0,.ref S,.int n 0,.int M 0] }
section
variable {prog:Program}{w:World}{A:Around}{E:QV}{s:Shared}{it S:Addr}{i ep:Nat}{o:Obj}{es:Array (Int×Value)}{t:SetTable}
theorem eE (G:s.heap.get? it=some (mS M i S n ep)):s.TypeIs (.ref it) "set_iterator":=⟨_,G,rfl⟩
theorem yv {k k':Nat}{x:Value}{Q:Option Value->Shared->Prop}(G:s.heap.get? it=some (mS (.int k 0) i S es.size ep))
  (O:s.heap.get? S=some o) (hd:o.data=.set es ep t) (hf:t.fits es.size=true)
  (T:∀(U:Around)(a:QV)(M:Option (Value×Nat)->Shared->Prop),M (some (x,k')) s->wpAny (model prog w) U (setNext S k i ep) M a s)
  (b:∀h',h'.get? it=some (mS (.int k' 0) (i+1) S es.size ep)->Heap.SameBut it s.heap h'->Q (some x) { s with heap:=h' }):
  wpAny (model prog w) A (pyNext (.ref it)) Q E s:=by
 refine wX (wpAny_attempt (wpAny_callSpecial?_slot  (eE G) bI
  (wpAny_call_entry bI (eE G) gp ?_ (gP _))))
 show wpAny _ _ (fieldsOf _>>=_) _ _ s;refine wX (wpAny_fieldsOf G rfl ?_);refine wX (wpAny_setEntries_of O hd hf ?_);rw[if_neg N9];refine wX (T _ _ _ ?_);refine wX (wpAny_setField_rec G N9 λh1 c b1=>?_);refine wX (wpAny_setField_rec c N9 λh2 e2 b2=>?_);exact wY ⟨x,rfl,wY (b h2 (by simpa [rawInt,mS]using e2) (b1.trans b2))⟩
theorem yw {k:Nat}{Q:Option Value->Shared->Prop}(hh:A.handled=none)(G:s.heap.get? it=some (mS (.int k 0) i S es.size ep))
  (O:s.heap.get? S=some o) (hd:o.data=.set es ep t) (hf:t.fits es.size=true)
  (T:∀(U:Around)(a:QV)(M:Option (Value×Nat)->Shared->Prop),M none s->wpAny (model prog w) U (setNext S k i ep) M a s)
  (b:∀h',Heap.ExtBut it s.heap h'->Q none { s with heap:=h' }):
  wpAny (model prog w) A (pyNext (.ref it)) Q E s:=by
 refine wX (wpAny_attempt (wpAny_callSpecial?_slot  (eE G) bI
  (wpAny_call_entry bI (eE G) gp ?_ (gP _))))
 show wpAny _ _ (fieldsOf _>>=_) _ _ s;refine wX (wpAny_fieldsOf G rfl ?_);refine wX (wpAny_setEntries_of O hd hf ?_);rw[if_neg N9];refine wX (T _ _ _ ?_);refine wX (wpAny_setField_rec G N9 λh1 c b1=>?_);refine wX ?_;refine wX (m:=firstArgMember _ _) (wpAny_of_eq  H9 ?_);refine wpAny_newObj_type ?_ s9;refine wX (wpAny_handled ?_);rw[show A.in1.handled=none from hh];refine wX (wY (wpAny_throw ?_));refine wX (wpAny_isInstance   ⟨_,vY _ rfl,rfl⟩ isSubtype_stop ?_);exact wY (b _ ((b1.extBut.push _).push _))
theorem vn {T:Addr}{pl:LN}{p:Nat}{x:Int×Value}{nt:Nat}{Q:Option Value->Shared->Prop}(G:s.heap.get? it=some (mS (.ref T) i S es.size ep))
  (U:s.heap.get? T=some (seqObj "tuple" (pl.map λ(p:Nat)=>Value.int p 0).toArray nt))
  (O:s.heap.get? S=some o) (hd:o.data=.set es ep t) (hf:t.fits es.size=true) (hp:pl[i]? = some p) (hx:es[p]? = some x)
  (a:∀h',h'.get? it=some (mS (.ref T) (i+1) S es.size ep)->Heap.SameBut it s.heap h'->Q (some x.2) { s with heap:=h' }):
  wpAny (model prog w) A (pyNext (.ref it)) Q E s:=by
 refine wX (wpAny_attempt (wpAny_callSpecial?_slot  (eE G) bI
  (wpAny_call_entry bI (eE G) gp ?_ (gP _))))
 show wpAny _ _ (fieldsOf (.ref it)>>=_) _ _ s;refine wX (wpAny_fieldsOf G rfl ?_);refine wX (wpAny_setEntries_of O hd hf ?_);rw[if_neg N9];refine wX (wpAny_seqItems U rfl ?_);have M:(pl.map λ(p:Nat)=>Value.int p 0).toArray[(i:Int).toNat]? = some (.int p 0):=by simp[hp]
 dsimp only;rw[M];have e2:wpAny (model prog w) A.in1 (setNextDrawn S (p:Int).toNat (ep:Int).toNat) (λy s'=>y=x.2/\s'=s) (λ_ _=>False) s:=by
  refine wX (wpAny_setState_of O hd hf ?_);simp_all[wY]
 refine wX (wpAny_mono e2 (λy s' hy=>?_) λ_ _ z=>z.elim);obtain⟨rfl,rfl⟩:=hy;refine wX (wpAny_setField_rec G N9 λh1 M b1=>?_);exact wY ⟨_,rfl,wY (a h1 (by simpa [rawInt,mS]using M) b1)⟩
theorem vp {T:Addr}{pl:LN}{nt:Nat}{Q:Option Value->Shared->Prop}(hh:A.handled=none)(G:s.heap.get? it=some (mS (.ref T) i S es.size ep))
  (O:s.heap.get? T=some (seqObj "tuple" (pl.map λ(p:Nat)=>Value.int p 0).toArray nt))
  (U:s.heap.get? S=some o) (hd:o.data=.set es ep t) (hf:t.fits es.size=true) (hp:pl[i]? = none)
  (a:∀h',Heap.ExtBut it s.heap h'->Q none { s with heap:=h' }):
  wpAny (model prog w) A (pyNext (.ref it)) Q E s:=by
 refine wX (wpAny_attempt (wpAny_callSpecial?_slot  (eE G) bI
  (wpAny_call_entry bI (eE G) gp ?_ (gP _))))
 show wpAny _ _ (fieldsOf _>>=_) _ _ s;refine wX (wpAny_fieldsOf G rfl ?_);refine wX (wpAny_setEntries_of U hd hf ?_);rw[if_neg N9];refine wX (wpAny_seqItems O rfl ?_);have M:(pl.map λ(p:Nat)=>Value.int p 0).toArray[(i:Int).toNat]? = none:=by simpa using hp
 dsimp only;rw[M];refine wX (wpAny_setField_rec G N9 λh0 b c=>?_);refine wX (wpAny_setField_rec b N9 λh1 M b1=>?_);refine wX ?_;refine wX (m:=firstArgMember _ _) (wpAny_of_eq  H9 ?_);refine wpAny_newObj_type ?_ s9;refine wX (wpAny_handled ?_);rw[show A.in1.handled=none from hh];refine wX (wY (wpAny_throw ?_));refine wX (wpAny_isInstance   ⟨_,vY _ rfl,rfl⟩ isSubtype_stop ?_);exact wY (a _ (((c.trans b1).extBut.push _).push _))
theorem Ac (G:s.heap.get? it=some (mS M i S n ep))(h:Q (.ref it) s):wpAny (model prog w) A (pyIter (.ref it)) Q E s:=by
 refine wpAny_pyIter_slot (eE G) mB (wpAny_call_entry mB (eE G) rR ?_ (vk _));exact wY ⟨_,rfl,"set_iterator",_,eE G,bI.lookup,h⟩
end
section
variable {prog:Program}{w:World}{A:Around}{E:QV}{s:Shared}{it S:Addr}{i k ep:Nat}{o:Obj}{es:Array (Int×Value)}{t:SetTable}
theorem wz (G:s.heap.get? S=some o)(hd:o.data=.set es ep t)(hf:t.fits es.size=true)(hb:w.params.followText "set-order" = true)
  (h:Q (((pickOrder (w.params.setOrder S ep) es)[i]?).map λe=>(e.2,k)) s):wpAny (model prog w) A (setNext S k i ep) Q E s:=by
 refine wX (wpAny_setState_of G hd hf ?_);show wpAny _ _ (if w.params.followText _=true then _ else _) _ _ _;rw[if_pos hb,if_neg N9];refine wX (wX (wpAny_setState_of G hd hf ?_));show wpAny _ _ (if w.params.followText _=true then _ else _) _ _ _;rw[if_pos hb];refine wX (wpAny_askSetting (wY ?_));exact wY h
theorem rS (G:s.heap.get? S=some o)(hd:o.data=.set es ep t)(hf:t.fits es.size=true)(hb:w.params.followText "set-order" = false)(hl:t.led=true)(hz:es.size<=1)
  (h:Q (match es[SetTable.below t.place k]?,t.place[SetTable.below t.place k]? with
   |some (_,x),some j=>some (x,j+1)
   |_,_=>none) s):wpAny (model prog w) A (setNext S k i ep) Q E s:=by
 refine wX (wpAny_setState_of G hd hf ?_);show wpAny _ _ (if w.params.followText _=true then _ else _) _ _ _;rw[if_neg (by rw[hb];simp)];show wpAny _ _ (if(!t.plain && decide _)=true then _ else _) _ _ _;rw[if_neg (by simp_all)];show wpAny _ _ ((if(!t.led && !es.isEmpty)=true then unsupported _ else pure ())>>=_) _ _ _;rw[hl];exact wY h
theorem w4 (hh:A.handled=none)(hd:o.data=.set es ep t)(hf:t.fits es.size=true)(U:S≠it)(vs:LU)(hv:vs.length=es.size)(sl:Nat->Nat)
  (a:∀i x,vs[i]? = some x->∀(M:Around)(O:QV)(s:Shared)(G:Option (Value×Nat)->Shared->Prop),s.heap.get? S=some o->G (some (x,sl (i+1))) s->wpAny (model prog w) M (setNext S (sl i) i ep) G O s)
  (c:∀(M:Around)(O:QV)(s:Shared)(G:Option (Value×Nat)->Shared->Prop),s.heap.get? S=some o->G none s->wpAny (model prog w) M (setNext S (sl es.size) es.size ep) G O s):
  Walks prog w A it [it,S] [it] es.size (λi v=>vs[i]? = some v) (λi h=>h.get? it=some (mS (.int (sl i) 0) i S es.size ep)/\h.get? S=some o) where
 sub:=λb hb=>by simp at hb;simp[hb]
 frame:=λ_ _ _ st hk=>⟨hk it N9 _ st.1,hk S N9 _ st.2⟩
 item:=λi s Q E hi st T=>by
  obtain⟨x,hx⟩:∃x,vs[i]? = some x:=⟨_,vU M9⟩;refine yv st.1 st.2 hd hf (λM O G q=>a i x hx M O s G st.2 q) λh' h1 h2=>?_;exact T x h' _ hx ⟨h1,h2.extBut S _ U st.2⟩ λb u hb e=>h2.extBut b u (λz=>hb (by simp[z])) e
 done:=λs Q E st T=>yw hh st.1 st.2 hd hf (λM O G q=>c M O s G st.2 q) λh' h1=>T h' _ λb u hb e=>h1 b u (λz=>hb (by simp[z])) e
 self:=λ_ _ _ _ st T=>Ac st.1 T
theorem Ce {T:Addr}{pl:LN}{nt:Nat}(hh:A.handled=none)(hd:o.data=.set es ep t)(hf:t.fits es.size=true)(O:S≠it)(U:T≠it)(hp:pl.Perm (List.range es.size)):
  Walks prog w A it [it,S,T] [it] es.size (λi v=>(pl.map λp=>(es.getD p (0,.none)).2)[i]? = some v)
   (λi h=>h.get? it=some (mS (.ref T) i S es.size ep)/\h.get? S=some o/\h.get? T=some (seqObj "tuple" (pl.map λ(p:Nat)=>Value.int p 0).toArray nt)) where
 sub:=λb hb=>by simp at hb;simp[hb]
 frame:=λ_ _ _ st hk=>⟨hk it N9 _ st.1,hk S N9 _ st.2.1,hk T N9 _ st.2.2⟩
 item:=λi s Q E hi st G=>by
  have M:pl.length=es.size:=by rw[hp.length_eq,length_range]
  obtain⟨p,hx⟩:∃p,pl[i]? = some p:=⟨_,vU M9⟩;have a :=mem_range.mp (hp.mem_iff.mp (vL hx));have he:es[p]? = some (es.getD p (0,.none)):=by simp_all
  refine vn st.1 st.2.2 st.2.1 hd hf hx he λh' h1 h2=>?_;exact G _ h' s.toks (by simp[hx]) ⟨h1,h2.extBut S _ O st.2.1,h2.extBut T _ U st.2.2⟩ λb u hb e=>h2.extBut b u (λz=>hb (by simp[z])) e
 done:=λs Q E st G=>by
  have M:pl.length=es.size:=by rw[hp.length_eq,length_range]
  exact vp hh st.1 st.2.2 st.2.1 hd hf (getElem?_eq_none M9) λh' h1=>G h' s.toks λb u hb e=>h1 b u (λz=>hb (by simp[z])) e
 self:=λ_ _ _ _ st G=>Ac st.1 G
end
theorem Cf {α:Type}(es:Array α)(d:α):(List.range es.size).map (λp=>es.getD p d)=es.toList:=by
 apply ext_getElem?;intro i;by_cases h:i<es.size
 .simp_all
 simp_all
section
variable {prog:Program}{w:World}{A:Around}{E:QV}{s:Shared}
theorem wA (h:xs=#[j]):SetTable.below xs k=if j<k then 1 else 0:=by
 simp_all[SetTable.below,SetTable.below.go]
theorem HC {S:Addr}{c:LS}{Q:QV}(D:kj prog w s.heap S c)
  (l:∀(h':Heap)(d:Drawn)(it:Addr)(vs:LU)(fp:List Addr)(St:Nat->Heap->Prop),(∀T,T.handled=none->Walks prog w T it fp [it] c.length (λi v=>vs[i]? = some v) St)->St 0 h' ->
   (∀b u,s.heap.get? b=some u->h'.get? b=some u)->s.heap.objs.size<=it->(∀b∈fp,b=S\/s.heap.objs.size<=b)->vs.length=c.length->(vs.map strOf).Perm c->(∀v∈vs,∃x t,v=.str x t) ->
   Q (.ref it) { s with heap:=h',drawn:=d }):wpAny (model prog w) A (pyIter (.ref S)) Q E s:=by
 obtain⟨o,es,a,t,O,H,hd,I,hp,nd,hb,hf,J,K⟩:=D;have sz:es.size=c.length:=by rw[<-hp.length_eq,vI,vG]
 have U:S<s.heap.objs.size:=vX O;have y:s.TypeIs (.ref S) "set":=⟨_,O,H.1⟩;have L:∀e∈es.toList,∃x t,e.2=.str x t:=λe he=>by
  obtain⟨⟨k,hk,_⟩,_⟩:=I e he;obtain⟨t,q⟩:=Value.isStrOf_shape (show Value.isStrOf k e.2=true from hk);exact⟨k,t,q⟩
 refine wpAny_pyIter_slot y slot_set_iter (wpAny_call_entry slot_set_iter y qK ?_ (PySem.F.args_set_iter_1 _));show wpAny _ _ (Builtin.Frozenset.sizeOf S>>=_) _ _ s;unfold Builtin.Frozenset.sizeOf;refine wX (wX (wpAny_setEntries_of O hd hf (wY ?_)));unfold setDrawn setsByText;refine wX (wX (wpAny_setState_of O hd hf ?_));dsimp only;refine wX (wX (wpAny_askSetting (wY (wY ?_))));show wpAny _ _ (if(!w.params.followText "set-order" && (!t.plain && decide (es.size > 1)))=true then _ else _) _ _ _;have z:(es.toList.map (·.2)).map strOf=es.toList.map (λe=>strOf e.2):=by rw[uP];rfl
 by_cases G:w.params.followText "set-order" = true
 .rw[if_neg (by rw[G];simp)];refine wX (wY ?_);refine wX (wpAny_setEpoch_of O hd hf ?_);have pp:=Fh (w.params.setOrder S a) es;have B:((pickOrder (w.params.setOrder S a) es).toList.map (·.2)).length=es.size:=by rw[vI,pp.length_eq,vG]
  refine wX (wpAny_newObj_type (wY ⟨_,rfl,"set_iterator",_,⟨_,vY _ rfl,rfl⟩,bI.lookup,?_⟩));refine l _ s.drawn s.heap.objs.size ((pickOrder (w.params.setOrder S a) es).toList.map (·.2)) [s.heap.objs.size,S] (λi h=>h.get? s.heap.objs.size=some (mS (.int ((λ_=>0:Nat->Nat) i:Nat) 0) i S es.size a)/\h.get? S=some o) (λT f=>?_) ?_ (λb u e=>vZ _ e) (vT _) (λb hb=>?_) (B.trans sz) ?_ ?_
  .rw[<-sz];exact w4 f hd hf (vS U) _ B (λ_=>0) (λi x hx T m s n h1 h2=>wz h1 hd hf G (by
    rw[vA,Array.getElem?_toList]at hx;obtain⟨e,he,rfl⟩:=oY hx;rw[he];exact h2)) (λT m s n h1 h2=>wz h1 hd hf G (by
    simp_all))
  .exact⟨vY _ rfl,vZ _ O⟩
  .grind
  .grind
  grind
 .rw[Bool.not_eq_true]at G;have hl:t.led=true:=by rw[J,G];rfl
  by_cases h1:es.size<=1
  .rw[if_neg (by simp_all)];refine wX (wY ?_);refine wX (wpAny_setEpoch_of O hd hf ?_);refine wX (wpAny_newObj_type (wY ⟨_,rfl,"set_iterator",_,⟨_,vY _ rfl,rfl⟩,bI.lookup,?_⟩));have N:t.place.size=es.size:=by
    simp_all[SetTable.fits]
   refine l _ s.drawn s.heap.objs.size (es.toList.map (·.2)) [s.heap.objs.size,S] (λi h=>h.get? s.heap.objs.size=some (mS (.int ((λi=>if i=0 then 0 else t.place.getD 0 0+1:Nat->Nat) i:Nat) 0) i S es.size a)/\h.get? S=some o) (λT f=>?_) ?_ (λb u e=>vZ _ e) (vT _) (λb hb=>?_) (by simp_all) (by rw[z];exact hp) ?_
   .rw[<-sz];refine w4 f hd hf (vS U) _ N9 (λi=>if i=0 then 0 else t.place.getD 0 0+1) (λi x hx T m s n r g=>rS r hd hf G hl h1 ?_) (λT m s n r g=>rS r hd hf G hl h1 ?_)
    .have hi:i<es.size:=by have:=(vV hx).1;simpa using this
     have P:i=0:=M9
     subst P;obtain⟨j,hj⟩:∃j,t.place=#[j]:=Array.size_eq_one_iff.mp M9;rw[if_pos rfl,wA hj,if_neg M9];rw[vA,Array.getElem?_toList]at hx;obtain⟨e,he,rfl⟩:=oY hx;rw[he];simp only[hj]at g |-;simpa using g
    .by_cases h0:es.size=0
     .have C:t.place=#[]:=Array.eq_empty_of_size_eq_zero M9;have R:es=#[]:=Array.eq_empty_of_size_eq_zero h0;rw[C,R];simpa using g
     .obtain⟨j,hj⟩:∃j,t.place=#[j]:=Array.size_eq_one_iff.mp M9;rw[if_neg h0,wA hj];have:t.place.getD 0 0=j:=by rw[hj];rfl
      rw[this,if_pos M9,Array.getElem?_eq_none M9];exact g
   .exact⟨vY _ rfl,vZ _ O⟩
   .grind
   grind
  .have C:t.plain=false:=K M9;rw[if_pos (by simp_all)];refine wX (D1 es.size (List.range es.size) _ _ N9 λpl d pp=>?_);refine wX (wpAny_newTuple ?_ (by rw[vI,pp.length_eq,length_range,sz];exact fits_of_scanBound hb));refine wX (wpAny_setEpoch_of (vZ _ O) hd hf ?_);refine wX (wpAny_newObj_type (wY ⟨_,rfl,"set_iterator",_,⟨_,vY _ rfl,rfl⟩,bI.lookup,?_⟩));have hsz:(s.heap.push (seqObj "tuple" (pl.map λ(p:Nat)=>Value.int p 0).toArray 0)).objs.size=s.heap.objs.size+1:=size_push' _ _;have M:((pl.map λp=>(es.getD p (0,.none)).2)).Perm (es.toList.map (·.2)):=by
    have:=(pp.map λp=>es.getD p (0,Value.none)).map (·.2);rw[Cf]at this;rw[uP]at this;exact this
   refine l _ d _ (pl.map λp=>(es.getD p (0,.none)).2) [(s.heap.push (seqObj "tuple" (pl.map λ(p:Nat)=>Value.int p 0).toArray 0)).objs.size,S,s.heap.objs.size] (λi h=>h.get? (s.heap.push (seqObj "tuple" (pl.map λ(p:Nat)=>Value.int p 0).toArray 0)).objs.size=some (mS (.ref s.heap.objs.size) i S es.size a)/\h.get? S=some o/\h.get? s.heap.objs.size=some (seqObj "tuple" (pl.map λ(p:Nat)=>Value.int p 0).toArray 0)) (λT f=>?_) ?_ (λb u e=>vZ _ (vZ _ e)) ?_ (λb hb=>?_) ?_ ?_ ?_
   .rw[<-sz];exact Ce (nt:=0) f hd hf (by simp_all[vS,lt_succ_of_lt]) N9 pp
   .exact⟨vY _ rfl,vZ _ (vZ _ O),vZ _ (vY _ rfl)⟩
   .simp
   .grind
   .rw[M.length_eq,vI,vG,sz]
   .exact((M.map strOf).trans (by rw[z])).trans hp
   .intro v hv;obtain⟨e,he,rfl⟩:=vO (M.mem_iff.mp hv);exact L e he
end
theorem Fi (h:ItemsOf (λi v=>vs[i]? = some v) G vs.length):G.toList=vs:=by
 apply ext_getElem?;intro i;by_cases hi:i<G.size
 .have e :=Array.getElem?_eq_getElem hi;rw[Array.getElem?_toList,e,h.2 i _ e]
 .rw[getElem?_eq_none (by rw[vG];lia),getElem?_eq_none (by rw[<-h.1];lia)]
section
variable {prog:Program}{w:World}{A:Around}{E:QV}{s:Shared}
theorem Ad (hh:A.handled=none)(f:kj prog w s.heap S ts)
  (r:∀s' vs,(∀b u,s.heap.get? b=some u->s'.heap.get? b=some u)->s'.gens=s.gens->s'.os=s.os->vs.length=ts.length->(vs.map strOf).Perm ts->(∀v∈vs,∃x t,v=.str x t)->Q vs s'):
  wpAny (model prog w) A (collect (.ref S)) Q E s:=by
 have G:∀(s1:Shared),kj prog w s1.heap S ts->s1.TypeIs (.ref S) "set":=λs1 h=>by
  obtain⟨o,_,_,_,g,y,_⟩:=h;exact⟨o,g,y.1⟩
 have B:S<s.heap.objs.size:=by obtain⟨o,_,_,_,g,_⟩:=f;exact vX g
 have O:ts.length<scanBound:=by obtain⟨_,_,_,_,_,_,_,_,_,_,h,_⟩:=f;exact h
 unfold collect;refine wX (wpAny_runValue (codeAny_builtin PySem.F.entry_proto_collect ?_));refine wX (wpAny_newObj_type ?_);refine wY ⟨plainId_quiet PySem.F.plain_list_iadd _,codeAny_builtin PySem.F.entry_list_iadd ?_⟩;show wpAny _ A.in1 (Builtin.List.listExtendWith (.ref s.heap.objs.size) (.ref S) (.ref s.heap.objs.size)) _ _ _;unfold Builtin.List.listExtendWith;have T:kj prog w (s.heap.push { cls:=.type "list",data:=.seq ([]:LU).toArray }) S ts:=f.at λo e=>vZ _ e;refine wX (wpAny_typeOf (G _ T) ?_);have C:s.heap.objs.size≠S:=ne_of_gt B;have h1:Builtin.List.listSameRef (.ref s.heap.objs.size) (.ref S)=false:=by simp[Builtin.List.listSameRef,C]
 have h2:(Value.type "set" == Value.type "list")=false:=V9
 have h3:(Value.type "set" == Value.type "tuple")=false:=V9
 simp only[h1,h2,h3,Bool.or_false,uV,if_false];refine wX (HC  T λh' d it vs fp St W D hk Kj H k U a=>?_);have i:kj prog w h' S ts:=T.at λo e=>hk _ _ e;refine wX (wpAny_holding ?_);unfold Builtin.List.listLengthHint;refine wX (wpAny_specialOf (G _ i) PySem.F.slot_set_len.lookup ?_);wp_delta;refine wX (wpAny_isInstance (G _ i) sub_set_self ?_);refine wX (wpAny_typeOf (G _ i) ?_);refine wY ?_;rw[if_pos V9];refine wX (wpAny_rule ?_);refine wX ?_;have J:(s.heap.push { cls:=.type "list",data:=.seq ([]:LU).toArray }).objs.size=s.heap.objs.size+1:=size_push' _ _;have l :=hk _ _ (vY _ rfl);refine wX (wpAny_updateSeq l rfl ?_);have m:=Heap.get?_update_self (Obj.mapSeq (·.push Value.none)) l rfl;refine wpAny_updateSeq m rfl ?_;have I:=Heap.get?_update_self (Obj.mapSeq (·.pop)) m rfl;have n:s.heap.objs.size∉fp:=λhm=>by
  grind
 have p:∀b u,b≠s.heap.objs.size->h'.get? b=some u ->
   ((h'.update s.heap.objs.size (Obj.mapSeq (·.push Value.none))).update s.heap.objs.size (Obj.mapSeq (·.pop))).get? b=some u :=
  λb u hb e=>(Heap.get?_update_other _ _ (Ne.symm hb)).trans ((Heap.get?_update_other _ _ (Ne.symm hb)).trans e)
 have q:=W A.in1 hh;refine wY ⟨plainId_quiet plain_extend_loop _,codeAny_extend_loopS q.toS (fits_of_scanBound O) _ n _ ts.length 0 _ _ _ rfl (uN _)
  (q.frame 0 _ _ D λb hb u e=>p b u (λz=>n (z ▸ hb)) e) I (ItemsOf.nil _) λs' c K hm j M=>?_⟩
 refine wX (wpAny_load j ?_);rw[<-k]at M;refine wY ?_;show Q c.toList s';rw[Fi M];refine r s' vs (λb u e=>hm.heap b u (λhb=>?_) (p b u (vS (vX e)) (hk _ _ (vZ _ e)))) hm.gens hm.os k U a;have hl:=vX e;simp_all<;>lia
theorem Cg (hh:A.handled=none)(h:kj prog w s.heap S ts)(i:ts.length<64)
  (j:∀(s1:Shared)(h':Heap)(a:Addr)(out:AV)(n:Nat)(G:LS),(∀b u,s.heap.get? b=some u->s1.heap.get? b=some u)->s1.os=s.os->s1.gens=s.gens->(∀b u,s1.heap.get? b=some u->h'.get? b=some u)->s1.heap.objs.size<=a->h'.get? a=some (seqObj "list" out n) ->
   StrsAre out.toList G->G.Perm ts->sortedS G=true->Q (.ref a) { s1 with heap:=h' }):
  wpAny (model prog w) A (call (.builtin "sorted") [.ref S]) Q E s:=by
 refine Calls.call_function_entry kind_sorted plain_sorted entry_sorted (args_sorted1 _) ?_;refine wX  (wY ?_);refine wX (Ad  (by exact hh) h λs1 vs hk k d U M c=>?_);have O :=strsAre_map vs c;refine wX (wpAny_newList ?_ (by rw[U,sizeLine_eq];lia));have T:(s1.heap.push _).get? _=some (seqObj "list" vs.toArray 0):=vY _ rfl;refine wX (wpAny_holding (wpAny_call_entry slot_list_sort ⟨_,T,rfl⟩ entry_list_sort (list_sort_treeK strKind_oneLt T O.keysOf (λf g ay e=>keyKind_strs (by rw[<-e];exact O)) (by rw[U];exact i) λo l m=>⟨_,rfl,?_⟩) (args_list_sort _)));obtain⟨G,b1,b2,b3⟩:=sorted_out_str O l m;obtain⟨e,he⟩:=sortedHeap_at  T;refine wY ⟨_,rfl,j s1 _ _ _ e G hk d k (λb u q=>?_) (vT _) he b1 (b2.trans M) b3⟩;have hl:=vX q;rw[sortedHeap_old (vS hl) (by simp_all[lt_succ_of_lt])];exact vZ _ q
end
end DL
namespace DL
open PySem PySem.Spec PyProof.Rows L2
def Ae (a b:Str):Prop:=¬b.cps.toList<a.cps.toList
theorem D3:ltCps b.cps.toList a.cps.toList=false↔Ae a b:=by rw[ltCps_eq,decide_eq_false_iff_not];rfl
theorem wB (h:Ae a b)(k:Ae b c):Ae a c:=by
 grind[Ae]
theorem HD (h:Ae a b)(k:Ae b a):a=b:=by
 have e :=List.le_antisymm (not_lt.mp h) (not_lt.mp k);obtain⟨a⟩:=a;simp_all
noncomputable def Ch (x:Str):LS->LS
 |[]=>[x]
 |y::r=>if ltCps y.cps.toList x.cps.toList then y::Ch x r else x::y::r
noncomputable def mC (l:LS):LS:=l.foldr Ch []
theorem px (x:Str):∀l,(Ch x l).Perm (x::l)
 |[]=>List.Perm.refl _
 |y::r=>by
  unfold Ch;split
  .exact((px x r).cons y).trans (List.Perm.swap x y r)
  rfl
theorem dH:∀l,(mC l).Perm l
 |[]=>List.Perm.refl _
 |x::l=>(px x _).trans ((dH l).cons x)
theorem wC (x:Str):∀l,l.Pairwise Ae->(Ch x l).Pairwise Ae
 |[],_=>by simp[Ch]
 |y::r,h=>by
  obtain⟨h1,h2⟩:=pairwise_cons.mp h;unfold Ch;split
  .rename_i hl;refine pairwise_cons.mpr ⟨λz hz=>?_,wC x r h2⟩;rcases vP ((px x r).mem_iff.mp hz)with rfl|hz
   .rw[ltCps_eq,decide_eq_true_eq]at hl;exact λk=>lt_irrefl _ (lt_trans hl k)
   simp_all
  .rename_i hl;rw[Bool.not_eq_true]at hl;have G :=D3.mp hl;refine pairwise_cons.mpr ⟨λz hz=>?_,h⟩;rcases vP hz with rfl|hz
   .exact G
   .exact wB G (h1 z hz)
theorem rT:∀l,(mC l).Pairwise Ae
 |[]=>List.Pairwise.nil
 |x::l=>wC x _ (rT l)
theorem pX:∀(l:LS)(p:Str),risingS p l=true->(p::l).Pairwise Ae
 |[],p,_=>List.pairwise_singleton _ _
 |x::r,p,h=>by
  have h':(!ltCps _ _ && risingS x r)=true:=h;rw[vC]at h';have G :=D3.mp (by simpa using h'.1);have ih:=pX r x h'.2;refine pairwise_cons.mpr ⟨λz hz=>?_,ih⟩;rcases vP hz with rfl|hz
  .exact G
  .exact wB G ((pairwise_cons.mp ih).1 z hz)
theorem Af:∀(l:LS),sortedS l=true->l.Pairwise Ae
 |[],_=>List.Pairwise.nil
 |x::r,h=>pX r x h
theorem Ag (a:Str):Ae a a:=lt_irrefl _
theorem rV:∀(l1 l2:LS),l1.Perm l2->l1.Pairwise Ae->l2.Pairwise Ae->l1=l2
 |[],l2,p,_,_=>(nil_perm.mp p).symm
 |x::O,[],p,_,_=>absurd p.length_eq N9
 |x::O,y::T,p,h1,h2=>by
  have G:Ae x y:=by
   rcases vP (p.mem_iff.mpr (mX ..))with z|z
   .rw[z];exact Ag _
   simp_all
  have M:Ae y x:=by
   rcases vP (p.mem_iff.mp (mX ..))with z|z
   .rw[z];exact Ag _
   simp_all
  have e:=HD G M;subst e;rw[rV O T (List.Perm.cons_inv p) (pairwise_cons.mp h1).2 (pairwise_cons.mp h2).2]
theorem wD (p:G.Perm l)(h:sortedS G=true):G=mC l:=rV _ _ (p.trans (dH l).symm) (Af _ h) (rT l)
section
variable {X:Cx}
noncomputable def Ah (X:Cx)(S:Addr)(G:LS):HO:=.ext λh=>kj X.prog X.w h S G
theorem wE (I:Inv X ag σ H s)(k:∀b u,s.heap.get? b=some u->s1.heap.get? b=some u)(G:s1.os=s.os)(O:s1.gens=s.gens):Inv X ag σ H s1:=by
 have T:=I.step  (d':=s1.drawn) (t':=s1.toks)   (ch:=[]) (λ_ z=>nomatch z) (λb o _ _ _ e _=>k b o e) (λb o _ _ _ e _=>⟨o.slots,k b o e⟩) (λ_ _ _ _ n=>n)
  (λb o _ e=>⟨o,k b o e⟩) (λ_ _ e=>e) (λ_ _ _ e=>e) (λ_ _ e=>e) (λm hm=>?_) (I.hok.kept k) I.bare
 .obtain⟨h1,g1,d1,U,a⟩:=s1;simp_all
 .obtain⟨o,es,M,G,r⟩:=hm;exact⟨o,es,M,k _ o G,r⟩
theorem pY (hc:X.calm=true):cn X (.type "set") (λxs H Q=>∃p ys ss,xs=[.ref p]/\ii X.K H p ys/\(∀its,bg ys its->StrsAre its ss)/\ss.length<4000/\∀S,H S=none->Q (.ref S) (upd H S (Ah X S (gX ss)))):=by
 intro ag s σ H xs us Q I r h;obtain⟨p,ys,ss,rfl,hq,hs,T,q⟩:=h;obtain⟨u,rfl,U⟩:=ij r;cases U
 obtain⟨its,a,pl,hz⟩:=I.list hq;have G:=hs _ a;have M:its.length=ss.length:=by rw[<-G.strs,vI]
 refine rQ (I.ok.hd hc) pl.isList (by simpa using G) (by simp  [vH];unfold scanBound;lia) λh' tk O hk=>?_;refine⟨.ref _,_,I.laid  (λb u e=>hk b u (vX e) e) (vT _) ?_,rfl,q _ (I.hok.fresh (vT _))⟩;refine⟨O,?_,λh1 h2 z k=>z.at k⟩;obtain⟨o,_,_,_,c,_⟩:=O;exact⟨o,c⟩
theorem qL (hc:X.calm=true):cn X (.builtin "sorted") (λxs H Q=>∃S M,xs=[.ref S]/\H S=some (Ah X S M)/\M.length<64/\∀l,H l=none->Q (.ref l) (upd H l (.lst ((mC M).map .str)))):=by
 intro ag s σ H xs us Q I r h;obtain⟨S,M,rfl,c,O,q⟩:=h;obtain⟨u,rfl,d⟩:=ij r;cases d
 have f :=(I.hok S _ c).1;refine Cg (I.ok.hd hc) f O λs1 h' a out n g k1 i j k2 hp he T G U=>?_;have e:=wD G U;subst e;have b:=wE I k1 i j;have hv:∀ {its:List _}{zs:List _},StrsAre its zs->bg (zs.map V.str) its:=λz=>by
  induction z with
  |nil=>exact .nil
  |cons x t _ ih=>exact .cons ⟨t,rfl⟩ ih
 refine⟨.ref a,_,b.laid  k2 hp (show bP _ _ _ h' _ (.lst _)from ⟨?_,out.toList,n,hv T,he⟩),rfl,q _ (b.hok.fresh hp)⟩;rw[vI,(dH M).length_eq,sizeLine_eq];lia
end
@[simp] def gY:D->OB
 |.lst ds=>(ga ds).bind λss=>if ss.length<64 then some (.lst ((mC (gX ss)).map .str),true)else none
 |_=>none
@[simp] def D4:D->OB
 |.lst ds=>(ga ds).bind λss=>if ss.length<4000 then some (.int ((gX ss).length:Nat),false)else none
 |_=>none
theorem rW:bootBuiltins "sorted" = some (.builtin "sorted"):=Z9
theorem MQ:bootBuiltins "set" = some (.type "set"):=Z9
theorem nZ {K:Frag}{N:Hp}:∀(zs:LS),IsL K N (zs.map V.str) (zs.map D.str)
 |[]=>.nil
 |z::zs=>.cons (.str z) (nZ zs)
section
variable {X:Cx}{e:Expr}{pos pos2 p p2:Pos}
theorem mT (hc:X.calm=true)(m1:X.mg "sorted" = none)(m2:X.mg "set" = none)(he:JE X e f)(g1:Gl X "sorted":=by rfl)(b:Gl X "set":=by rfl)
  (h1:starEach [e] X.env=(false,eval e X.env)::starEach [] X.env:=by rfl):JE X (.Call (.Name "sorted" p) [.Call (.Name "set" p2) [e] [] pos2] [] pos) (f1 gY f):=by
 refine PE.to (rj (qL hc) g1 m1 rW (fF (pi (pY hc) b m2 MQ (fF he hW h1) (he:=h1)) hW)) λσ H Q q=>?_;obtain⟨B,ρ,d',bb,c,r,G,q⟩:=q;obtain⟨T,ex,G⟩:=oX G;refine⟨B,ρ,T.1,T.2,c,r,ex,λv m N1 O i1 n=>?_⟩;obtain⟨xd,s⟩:=T;cases i1<;>try (simp[gY]at G;done)
 rename_i t vs ds h hl;obtain⟨ss,d,G⟩:=oX G;split at G
 .rename_i U;cases G
  refine⟨_,_,ss,rfl,O.nh.seq h,λits g=>iN g hl d,M9,λS i=>⟨S,_,rfl,a8,lt_of_le_of_lt (nX ss) U,λl M=>?_⟩⟩;have a:=Ext.laid (o:=Ah X S (gX ss)) O.nh i;have j:=Ext.laid (o:=.lst ((mC (gX ss)).map V.str)) a.nh M;have k:H l=none:=((O.trans a).hh).free M;exact q _ _ _ ((O.trans a).trans j) (.lst (ii.of a8) (nZ _)) λ_=>⟨_,_,_,rfl,rfl,k,a8,nZ _⟩
 simp_all
end
end DL
namespace DL
open PySem PySem.Spec PySem.W PyProof.Rows
inductive Run (n:Nat)(lt:Nat->Nat->Bool){α:Type}:KasT α->α->Prop where
 |ret (a:α):Run n lt (.ret a) a
 |ask {i j:Nat}{k:Bool->KasT α}{a:α}(hi:i<n) (hj:j<n) (h:Run n lt (k (lt i j)) a):Run n lt (.ask i j k) a
theorem Run.bind {n:Nat}{lt:Nat->Nat->Bool}{α G:Type}{t:KasT α}{f:α->KasT G}{a:α}{b:G}(h:Run n lt t a)(k:Run n lt (f a) b):Run n lt (t.bind f) b:=by
 induction h with
 |ret a=>exact k
 |ask hi hj _ ih=>exact .ask hi hj (ih k)
theorem Run.wp {n:Nat}{lt:Nat->Nat->Bool}{α:Type}{G:Nat->Nat->(Bool->Shared->Prop)->Shared->Prop}{Q:α->Shared->Prop}{t:KasT α}{a:α}(J:Shared->Prop)
  (hc:∀i j C s,i<n->j<n->J s->(∀s',J s'->C (lt i j) s')->G i j C s) (h:Run n lt t a):∀ {s:Shared},J s->(∀s',J s'->Q a s')->t.kasWp G Q s:=by
 induction h with
 |ret a=>intro s M O;exact O s M
 |ask hi hj _ ih=>intro s M O;exact hc _ _ _ _ hi hj M λs' T=>ih T O
section
variable {n:Nat}{rk:Nat->Int}
noncomputable abbrev rX (rk:Nat->Int)(i j:Nat):Bool:=decide (rk i<rk j)
noncomputable def c8 (rk:Nat->Int)(p:Array Nat)(k:Nat):Int:=rk (p.getD k 0)
structure oZ (n:Nat)(p:Array Nat):Prop where
 size:p.size=n
 perm:p.toList.Perm (List.range n)
theorem oZ.lt {p:Array Nat}(h:oZ n p){k:Nat}(hk:k<n):p.getD k 0<n:=by
 have G:k<p.size:=by rw[h.size];exact hk
 have:p.getD k 0=p[k]:=by simp_all
 rw[this];exact mem_range.mp (h.perm.mem_iff.mp N9)
theorem oZ.rev {p:Array Nat}(h:oZ n p)(i j:Nat):oZ n (kas_rev p i j) :=
 ⟨(mirror_size _ _ _ _).trans h.size,(Array.perm_iff_toList_perm.mp (mirror_perm p i j _)).trans h.perm⟩
theorem oZ.bub {p:Array Nat}(h:oZ n p)(k d:Nat):oZ n (bubble p k d) :=
 ⟨(bubble_size _ _ _).trans h.size,(Array.perm_iff_toList_perm.mp (bubble_perm p k d)).trans h.perm⟩
theorem yx {p:Array Nat}{i j:Nat}(hj:j<=p.size)(k:Nat):c8 rk (kas_rev p i j) k=if i<=k/\k<j then c8 rk p (i+j - 1 - k)else c8 rk p k:=by
 unfold c8 kas_rev;rw[Array.getD_eq_getD_getElem?,getElem?_mirror_all hj];split<;>simp_all
theorem HE {p:Array Nat}{G d:Nat}(hs:G<p.size)(hd:d<=G)(k:Nat):c8 rk (bubble p G d) k=if k=G - d then c8 rk p G else if G - d<k/\k<=G then c8 rk p (k - 1)else c8 rk p k:=by
 unfold c8;simp  [Array.getD_eq_getD_getElem?];rw[getElem?_bubble hs d hd];repeat' split
 all_goals rfl
def Up (rk:Nat->Int)(p:Array Nat)(m:Nat):Prop:=∀i j,i<=j->j<m->c8 rk p i<=c8 rk p j
def yy (rk:Nat->Int)(p:Array Nat)(m:Nat):Prop:=∀i j,i<=j->j<m->c8 rk p j<=c8 rk p i
theorem OE (p:Array Nat):Up rk p 1:=λi j h1 h2=>by
 simp_all
theorem yz {p:Array Nat}(h:oZ n p){r:Nat}(a:r<=n):∀(f m:Nat),r - m=f->1<=m->m<=r->Up rk p m->∃G,Run n (rX rk) (kas_asc p f m) G/\m<=G/\G<=r/\Up rk p G/\(G<r->c8 rk p G<c8 rk p (G - 1))
 |0,m,hf,h1,hm,hu=>⟨m,.ret m,vT _,hm,hu,λz=>by lia⟩
 |f+1,m,hf,h1,hm,hu=>by
  have T:=h.lt (k:=m) M9;have U:=h.lt (k:=m - 1) M9;by_cases hc:c8 rk p m<c8 rk p (m - 1)
  .refine⟨m,.ask T U ?_,vT _,hm,hu,λ_=>hc⟩;have:rX rk _ _=true:=zh hc;rw[this];exact .ret m
  .have M:Up rk p (m+1):=λi j O hj=>by
    by_cases e:j=m
    .subst e;by_cases e2:i=j
     .subst e2;exact Int.le_refl _
     .have:=hu i (j - 1) M9 M9;lia
    .exact hu i j O M9
   obtain⟨G,b,l,c,d,g⟩:=yz h a f _ M9 M9 M9 M;refine⟨G,.ask T U ?_,M9,c,d,g⟩;have:rX rk _ _=false:=So hc;rw[this];exact b
def Li (rk:Nat->Int)(p:Array Nat)(m q:Nat):Prop:=q+1<=m/\∀k,m - (q+1)<=k->k<m->c8 rk p k=c8 rk p (m - 1)
theorem Ai {p:Array Nat}{m q:Nat}(hs:m<=p.size)(hf:Li rk p m q)(k:Nat):c8 rk (kas_rev p (m - (q+1)) m) k=c8 rk p k:=by
 rw[yx hs];split
 .rename_i hk;rw[hf.2 k hk.1 hk.2,hf.2 _ M9 M9]
 .rfl
theorem D5 {p G:Array Nat}{m:Nat}(e:∀k,c8 rk G k=c8 rk p k)(h:yy rk p m):yy rk G m:=λi j h1 h2=>by rw[e,e];exact h i j h1 h2
theorem rY (p:Array Nat){m:Nat}(h:1<=m):Li rk p m 0:=⟨h,λk h1 h2=>by
 grind⟩
theorem oe {r:Nat}(s:r<=n):∀(f:Nat)(p:Array Nat)(m q:Nat),oZ n p->r - m=f->1<=m->m<=r->yy rk p m->Li rk p m q->∃G M U,Run n (rX rk) (kas_desc f p m q) (G,M,U)/\oZ n G/\m<=M/\M<=r/\yy rk G M/\Li rk G M U
 |0,p,m,q,h,hf,h1,hm,hd,hq=>⟨p,m,q,.ret _,h,vT _,hm,hd,hq⟩
 |f+1,p,m,q,h,hf,h1,hm,hd,hq=>by
  have a:=h.lt (k:=m) M9;have b:=h.lt (k:=m - 1) M9;have step:∀G:Array Nat,(∀k,c8 rk G k=c8 rk p k)->c8 rk p m<=c8 rk p (m - 1)->yy rk G (m+1):=λG e x i j t hj=>by
   rw[e,e];by_cases z:j=m
   .subst z;by_cases w:i=j
    .subst w;exact Int.le_refl _
    .have:=hd i (j - 1) M9 M9;lia
   .exact hd i j t M9
  by_cases hc:c8 rk p m<c8 rk p (m - 1)
  .have O:rX rk (p.getD m 0) (p.getD (m - 1) 0)=true:=zh hc;by_cases c:q > 0
   .have e:=Ai (p:=p) (by rw[h.size];lia) hq;obtain⟨G,M,U,g1,d,u,g,l,o⟩:=oe s f (kas_rev p (m - (q+1)) m) (m+1) 0 (h.rev _ _) M9 M9 M9 (step _ e M9) (rY _ M9);refine⟨G,M,U,.ask a b ?_,d,M9,g,l,o⟩;rw[O,if_pos rfl,if_pos c];exact g1
   .obtain⟨G,M,U,g1,d,u,g,l,o⟩:=oe s f p (m+1) 0 h M9 M9 M9 (step _ (λ_=>rfl) M9) (rY _ M9);refine⟨G,M,U,.ask a b ?_,d,M9,g,l,o⟩;rw[O,if_pos rfl,if_neg c];exact g1
  .have O:rX rk (p.getD m 0) (p.getD (m - 1) 0)=false:=So hc;by_cases v:c8 rk p (m - 1)<c8 rk p m
   .have T:rX rk (p.getD (m - 1) 0) (p.getD m 0)=true:=zh v;refine⟨p,m,q,.ask a b ?_,h,vT _,hm,hd,hq⟩;rw[O,if_neg uX];refine .ask b a ?_;rw[T,if_pos rfl];exact .ret _
   .have T:rX rk (p.getD (m - 1) 0) (p.getD m 0)=false:=So v;have he:c8 rk p m=c8 rk p (m - 1):=M9
    obtain⟨G,M,U,g1,d,u,g,l,o⟩:=oe s f p (m+1) (q+1) h M9 M9 M9 (step _ (λ_=>rfl) M9) ⟨by have:=hq.1;lia,λk k1 k2=>by
     rw[Nat.add_sub_cancel];by_cases z:k=m
     .rw[z]
     .rw[hq.2 k M9 M9,he]⟩
    refine⟨G,M,U,.ask a b ?_,d,M9,g,l,o⟩;rw[O,if_neg uX];refine .ask b a ?_;rw[T,if_neg uX];exact g1
theorem Aj {r:Nat}(O:r<=n){p:Array Nat}(h:oZ n p){m:Nat}(h1:1<=m)(hm:m<=r)(hd:yy rk p m):∃G M,Run n (rX rk) (kas_tail3 m r p) (G,M)/\oZ n M/\1<=G/\G<=r/\Up rk M G:=by
 have hu:Up rk (kas_rev p 0 m) m:=λi j T hj=>by
  rw[yx (by rw[h.size];lia),yx (by rw[h.size];lia),if_pos M9,if_pos M9];exact hd _ _ M9 M9
 obtain⟨G,U,c,a,b,_⟩:=yz (h.rev 0 m) O _ m rfl h1 hm hu;exact⟨G,_,U.bind (.ret _),h.rev 0 m,M9,a,b⟩
theorem Ak {r:Nat}(O:r<=n){p:Array Nat}(h:oZ n p){m:Nat}(hm:m+1<=r)(hd:yy rk p (m+1)):∃G M,Run n (rX rk) (kas_descPart m r p) (G,M)/\oZ n M/\1<=G/\G<=r/\Up rk M G:=by
 obtain⟨d,m1,b,g1,T,e,U,a,c⟩:=oe O _ p _ 0 h rfl M9 hm hd (rY _ M9);by_cases hq:b > 0
 .obtain⟨G,M,k1,k2,k3,k4,k5⟩:=Aj O (T.rev _ m1)  M9 U (D5 (Ai (by rw[T.size];lia) c) a);exact⟨G,M,g1.bind (by simp_all),k2,k3,k4,k5⟩
 .obtain⟨G,M,k1,k2,k3,k4,k5⟩:=Aj O T  M9 U a;exact⟨G,M,g1.bind (by simp_all),k2,k3,k4,k5⟩
theorem Fj {p:Array Nat}(h:oZ n p)(hn:1<=n):∃G O,Run n (rX rk) (kas_count n p) (G,O)/\oZ n O/\1<=G/\G<=n/\Up rk O G:=by
 obtain⟨m,U,c,d,a,g⟩:=yz h (vT n) (n - 1) 1 rfl (vT 1) hn (OE (rk:=rk) p);by_cases e:m=n
 .exact⟨m,p,U.bind (by rw[if_pos (by simp[e])];exact .ret _),h,c,d,a⟩
 .have o:=g M9;have f:¬(m == n)=true:=by simp[e]
  by_cases T:m > 1
  .by_cases hc:c8 rk p 0<c8 rk p (m - 1)
   .refine⟨m,p,U.bind ?_,h,c,d,a⟩;rw[if_neg f,if_pos T];refine .ask (h.lt M9) (h.lt M9) ?_;have:rX rk (p.getD 0 0) _=true:=zh hc;rw[this,if_pos rfl];exact .ret _
   .have M:∀k,k<m->c8 rk p k=c8 rk p 0:=λk hk=>by
     have q:=a 0 k M9 hk;have r:=a k (m - 1) M9 M9;simp_all<;>lia
    have er:∀k,c8 rk (kas_rev p 0 m) k=c8 rk p k:=λk=>by
     rw[yx (by rw[h.size];lia)];split
     .rename_i z;rw[M _ M9,M k z.2]
     .rfl
    have hd:yy rk p (m+1):=λi j b hj=>by
     grind
    obtain⟨G,O,k1,k2,k3,k4,k5⟩:=Ak (vT n) (h.rev 0 m) (m:=m) M9 (D5 er hd);refine⟨G,O,U.bind ?_,k2,k3,k4,k5⟩;rw[if_neg f,if_pos T];refine .ask (h.lt M9) (h.lt M9) ?_;have:rX rk (p.getD 0 0) _=false:=So hc;rw[this];exact k1
  .have l:m=1:=M9
   subst l;have hd:yy rk p 2:=λi j b hj=>by
    grind
   obtain⟨G,O,k1,k2,k3,k4,k5⟩:=Ak (vT n) h (m:=1) M9 hd;refine⟨G,O,U.bind ?_,k2,k3,k4,k5⟩;simp_all
theorem pz {p:Array Nat}(h:oZ n p){k:Nat}(hk:k<n)(hu:Up rk p k):∀(f l r:Nat),r - l<=f->l<=r->r<=k->(∀i,i<l->c8 rk p i<=c8 rk p k)->(∀i,r<=i->i<k->c8 rk p k<c8 rk p i) ->
  ∃G,Run n (rX rk) (kas_place p k f l r) G/\G<=k/\(∀i,i<G->c8 rk p i<=c8 rk p k)/\(∀i,G<=i->i<k->c8 rk p k<c8 rk p i)
 |0,l,r,hf,hl,d,h1,h2=>⟨l,.ret l,M9,h1,λi a b=>h2 i M9 b⟩
 |f+1,l,r,hf,hl,d,h1,h2=>by
  by_cases M:l ≥ r
  .refine⟨l,?_,M9,h1,λi a b=>h2 i M9 b⟩;unfold kas_place;rw[if_pos M];exact .ret l
  .by_cases hc:c8 rk p k<c8 rk p ((l+r) / 2)
   .obtain⟨G,O,T,U,c⟩:=pz h hk hu f l ((l+r) / 2) M9 M9 M9 h1 λi a b=>by
     have:=hu _ i a b;lia
    refine⟨G,?_,T,U,c⟩;unfold kas_place;rw[if_neg M];refine .ask (h.lt M9) (h.lt M9) ?_;have:rX rk _ _=true:=zh hc;rw[this];exact O
   .obtain⟨G,O,T,U,c⟩:=pz h hk hu f ((l+r) / 2+1) r M9 M9 d (λi a=>by
     have:=hu i ((l+r) / 2) M9 M9;lia) h2
    refine⟨G,?_,T,U,c⟩;unfold kas_place;rw[if_neg M];refine .ask (h.lt M9) (h.lt M9) ?_;have:rX rk _ _=false:=So hc;rw[this];exact O
theorem D6:∀(f:Nat)(p:Array Nat)(k:Nat),oZ n p->n - k=f->k<=n->Up rk p k->∃G,Run n (rX rk) (kas_bin f p k) G/\oZ n G/\Up rk G n
 |0,p,k,h,hf,hk,hu=>⟨p,.ret p,h,(show k=n by lia) ▸ hu⟩
 |f+1,p,k,h,hf,hk,hu=>by
  have M:k<n:=M9
  obtain⟨l,c,m,d,o⟩:=pz h M hu k 0 k M9 M9 (vT _) (λi z=>by lia) (λi a b=>by lia);have hsz:k<p.size:=by rw[h.size];exact M
  have O:Up rk (bubble p k (k - l)) (k+1):=λi j T hj=>by
   rw[HE hsz M9,HE hsz M9];have e:k - (k - l)=l:=M9
   rw[e];by_cases i1:i=l
   .grind
   .rw[if_neg i1];by_cases i2:l<i/\i<=k
    .rw[if_pos i2,if_neg M9,if_pos M9];exact hu _ _ M9 M9
    .rw[if_neg i2];by_cases U:j=l
     .rw[if_pos U];exact d i M9
     .rw[if_neg U];by_cases g:l<j/\j<=k
      .grind
      .rw[if_neg g];exact hu _ _ T M9
  obtain⟨G,k1,k2,k3⟩:=D6 f _ (k+1) (h.bub _ _) M9 M9 O;exact⟨G,c.bind k1,k2,k3⟩
theorem Al (hn:1<=n):∃p,Run n (rX rk) (kas_sort n) p/\oZ n p/\Up rk p n:=by
 have h0:oZ n (List.toArray (List.range n)):=⟨N9,N9⟩;obtain⟨m,p,M,O,a,b,T⟩:=Fj  h0 hn;by_cases e:m<n
 .have G:max m 1=m:=M9
  obtain⟨U,k1,k2,k3⟩:=D6 _ p (max m 1) O rfl M9 (by rw[G];exact T);exact⟨U,M.bind (by simp_all),k2,k3⟩
 .have:m=n:=M9
  subst this;exact⟨p,M.bind (by rw[if_neg e];exact .ret _),O,T⟩
end
theorem Fk {a b c:LI}(h:a<b)(k:b<c):a<c:=lt_trans h k
theorem Fl {a b c:LI}(h:¬b<a)(k:¬c<b):¬c<a:=by grind
theorem HF {a b:LI}(h:¬b<a)(k:¬a<b):a=b:=by grind
section
variable {α:Type}(f:α->LI)
def HG (a b:α):Prop:=¬f b<f a
noncomputable def p0 (x:α):List α->List α
 |[]=>[x]
 |y::r=>if f y<f x then y::p0 x r else x::y::r
noncomputable def dR (l:List α):List α:=l.foldr (p0 f) []
theorem p4 (x:α):∀l,(p0 f x l).Perm (x::l)
 |[]=>List.Perm.refl _
 |y::r=>by
  unfold p0;split
  .exact((p4 x r).cons y).trans (List.Perm.swap x y r)
  rfl
theorem bp:∀l,(dR f l).Perm l
 |[]=>List.Perm.refl _
 |x::l=>(p4 f x _).trans ((bp l).cons x)
theorem wF (x:α):∀l,l.Pairwise (HG f)->(p0 f x l).Pairwise (HG f)
 |[],_=>by simp[p0]
 |y::r,h=>by
  obtain⟨h1,h2⟩:=pairwise_cons.mp h;unfold p0;split
  .rename_i hl;refine pairwise_cons.mpr ⟨λz hz=>?_,wF x r h2⟩;rcases vP ((p4 f x r).mem_iff.mp hz)with rfl|hz
   .exact λk=>lt_irrefl _ (Fk hl k)
   .exact h1 z hz
  .rename_i hl;refine pairwise_cons.mpr ⟨λz hz=>?_,h⟩;rcases vP hz with rfl|hz
   .exact hl
   .exact Fl hl (h1 z hz)
theorem iO:∀l,(dR f l).Pairwise (HG f)
 |[]=>List.Pairwise.nil
 |x::l=>wF f x _ (iO l)
theorem wG:∀(l1 l2:List α),(∀x∈l1,∀y∈l1,f x=f y->x=y)->l1.Perm l2->l1.Pairwise (HG f)->l2.Pairwise (HG f)->l1=l2
 |[],l2,_,p,_,_=>(nil_perm.mp p).symm
 |x::O,[],_,p,_,_=>absurd p.length_eq N9
 |x::O,y::T,hi,p,h1,h2=>by
  have hy :=p.mem_iff.mpr (mX ..);have G:HG f x y:=by
   rcases vP hy with z|z
   .rw[z];exact lt_irrefl _
   simp_all
  have M:HG f y x:=by
   rcases vP (p.mem_iff.mp (mX ..))with z|z
   .rw[z];exact lt_irrefl _
   simp_all
  have e :=hi x (mX ..) y hy (HF G M);subst e;rw[wG O T (λa ha b hb=>hi a (mZ _ ha) b (mZ _ hb)) (List.Perm.cons_inv p) (pairwise_cons.mp h1).2 (pairwise_cons.mp h2).2]
theorem jH (hi:∀x∈l,∀y∈l,f x=f y->x=y)(p:G.Perm l)(h:G.Pairwise (HG f)):G=dR f l :=
 wG f _ _ (λx hx y hy=>hi x (p.mem_iff.mp hx) y (p.mem_iff.mp hy)) (p.trans (bp f l).symm) h (iO f l)
end
theorem mU {α:Type}{p q:α->Bool}(h:∀x,p x=true->q x=true):∀l:List α,(l.filter p).length<=(l.filter q).length
 |[]=>vT _
 |x::l=>by
  have ih:=mU h l;grind
noncomputable def rZ (cs:List LI)(c:LI):Int:=((cs.filter λx=>decide (x<c)).length:Nat)
theorem Lj {cs:List LI}{a b:LI}(h:¬b<a):rZ cs a<=rZ cs b:=by
 refine Int.ofNat_le.mpr (mU (λx hx=>?_) cs);grind
theorem y0 {cs:List LI}{a b:LI}(ha:a∈cs)(h:a<b):rZ cs a<rZ cs b:=by
 apply Int.ofNat_lt.mpr;induction cs with
 |nil=>simp at ha
 |cons c cs ih=>
  have G:∀l:List _,(l.filter λx=>decide (x<a)).length<=(l.filter λx=>decide (x<b)).length:=λl=>
   mU (λx hx=>by grind) l
  grind
theorem Am (ha:a∈cs):decide (rZ cs a<rZ cs b)=decide (a<b):=by
 by_cases h:a<b
 .simp_all[y0]
 simp_all[So,Lj]
inductive At where
 |i (n:Int)
 |s (z:Str)
noncomputable def OF:At->LI
 |.i n=>[n]
 |.s z=>z.cps.toList.map (λ(c:Nat)=>(c:Int)+1)++[0]
noncomputable def cC (xs:List At):LI:=xs.flatMap OF
noncomputable def bv:List At->List At->Option Bool
 |[],ys=>some (!ys.isEmpty)
 |_::_,[]=>some false
 |.i a::xs,.i b::ys=>if a=b then bv xs ys else some (decide (a<b))
 |.s a::xs,.s b::ys=>if a=b then bv xs ys else some (decide (a.cps.toList<b.cps.toList))
 |_::_,_::_=>none
theorem y4:∀(a b:LN)(r G:LI),(a.map (λ(c:Nat)=>(c:Int)+1)++0::r)<(b.map (λ(c:Nat)=>(c:Int)+1)++0::G)↔a<b\/(a=b/\r<G)
 |[],[],r,G=>by simp
 |[],y::b,r,G=>by simp[cons_lt_cons_iff]
 |x::a,[],r,G=>by simp[cons_lt_cons_iff];lia
 |x::a,y::b,r,G=>by
  rw[uY,uY,cons_append,cons_append,cons_lt_cons_iff,y4 a b r G,cons_lt_cons_iff];grind
theorem p5 (x:At)(xs:List At):cC (x::xs)=OF x++cC xs:=H9
theorem OG (x:At):OF x≠[]:=by cases x<;>simp[OF]
theorem D7 {a b:Str}:a.cps.toList=b.cps.toList↔a=b:=by
 constructor
 .obtain⟨a⟩:=a;simp_all
 .rintro rfl;rfl
theorem y6:∀(xs ys:List At)(b:Bool),bv xs ys=some b->b=decide (cC xs<cC ys)
 |[],[],b,h=>by simp_all[bv]
 |[],y::ys,b,h=>by
  simp[bv]at h;subst h;rw[p5];cases e:OF y with
  |nil=>exact absurd e (OG y)
  |cons c cs=>simp[cC]
 |x::xs,[],b,h=>by simp_all[bv,cC]
 |.i a::xs,.i c::ys,b,h=>by
  rw[bv]at h;show b=decide (a::cC xs<c::cC ys);split at h
  .rename_i e;subst e;rw[y6 xs ys b h];simp
  .simp_all[cons_lt_cons_iff]
 |.s a::xs,.s c::ys,b,h=>by
  rw[bv]at h;rw[p5,p5];have G:∀(z:Str)(r:List _),OF (.s z)++r=z.cps.toList.map (λ(c:Nat)=>(c:Int)+1)++0::r:=λz r=>by simp[OF]
  rw[G,G];split at h
  .rename_i e;rw[y6 xs ys b h];grind[y4]
  grind[y4,D7]
 |.i _::_,.s _::_,b,h=>by simp[bv]at h
 |.s _::_,.i _::_,b,h=>by simp[bv]at h
theorem Ci:∀(xs ys:List At),bv xs ys=some false->bv ys xs=some false->xs=ys
 |[],[],_,_=>rfl
 |[],y::ys,h,_=>by simp[bv]at h
 |x::xs,[],_,h=>by simp[bv]at h
 |.i a::xs,.i c::ys,h,k=>by
  rw[bv]at h k;by_cases e:a=c
  .subst e;rw[if_pos rfl]at h k;rw[Ci xs ys h k]
  lia
 |.s a::xs,.s c::ys,h,k=>by
  rw[bv]at h k;by_cases e:a=c
  .subst e;rw[if_pos rfl]at h k;rw[Ci xs ys h k]
  .rw[if_neg e]at h;rw[if_neg (Ne.symm e)]at k;simp only[Option.some.injEq,decide_eq_false_iff_not]at h k;exact absurd (D7.mp (List.le_antisymm (not_lt.mp k) (not_lt.mp h))) e
 |.i _::_,.s _::_,h,_=>by simp[bv]at h
 |.s _::_,.i _::_,h,_=>by simp[bv]at h
noncomputable def dj (ks:List (List At)):Bool:=ks.all λx=>ks.all λy=>(bv x y).isSome
theorem iD (h:dj ks=true)(hx:x∈ks)(hy:y∈ks):bv x y=some (decide (cC x<cC y)):=by
 have:=all_eq_true.mp (all_eq_true.mp h x hx) y hy;obtain⟨b,e⟩:=uU this;rw[e,y6 _ _ _ e]
theorem mi (h:dj ks=true)(hx:x∈ks)(hy:y∈ks)(e:cC x=cC y):x=y:=by
 refine Ci _ _ ?_ ?_
 .grind[iD]
 grind[iD]
def B7:At->Value->Prop
 |.i n,v=>∃t,v=.int n t
 |.s z,v=>∃t,v=.str z t
def gh (h:Heap)(xs:List At)(v:Value):Prop:=∃a o its n,v=.ref a/\h.get? a=some o/\o.cls=.type "tuple"/\o.data=.seq its n/\Paired B7 xs its.toList
theorem gh.keep (x:gh h xs v)(k:∀a o,o.cls=.type "tuple"->h.get? a=some o->h'.get? a=some o):gh h' xs v:=by
 obtain⟨a,o,its,n,e,G,hc,r⟩:=x;exact⟨a,o,its,n,e,k a o hc G,hc,r⟩
noncomputable def c9 (ks:List (List At)):Bool:=ks.all (λx=>match x with|.i _::_=>true|_=>false) || ks.all (λx=>match x with|.s _::_=>true|_=>false)
section
variable {prog:Program}{w:World}{A:Around}{E:QV}{s:Shared}
theorem HH (xs ys:List At)(its G:LU)(i:Nat)(O:Paired B7 xs its)(T:Paired B7 ys G)(h:bv xs ys=some b)(hf:gz=decide (xs.length<ys.length))(q:Q b s):KatLex prog w A true gz Q (its.zip G) i s:=by
 induction O generalizing ys G i with
 |nil=>
  refine kat_nil ?_;cases ys with
  |nil=>simp_all[bv]
  |cons y ys=>simp_all[bv]
 |@cons x v xs its O U ih=>
  cases T with
  |nil=>
   simp_all[kat_nil,bv]
  |@cons y u ys G T M=>
   cases x with
   |i a=>
    cases y with
    |s _=>simp[bv]at h
    |i c=>
     obtain⟨t,rfl⟩:=O;obtain⟨u,rfl⟩:=T;refine kat_cons (wpAny_eqBool_int ?_);rw[bv]at h;by_cases e:a=c
     .rw[if_pos e]at h;rw[show(a == c)=true by simp[e]];exact kat_yes (ih ys G (i+1) M h (by rw[hf];simp))
     .rw[if_neg e]at h;cases h
      rw[show(a == c)=false by simp[e]];refine kat_no ?_;cases hb:(true && i == 0) with
      |true=>exact oneLt_int q
      |false=>exact kat_one _ _ (PyProof.Rows.lt_int q)
   |s a=>
    cases y with
    |i _=>simp[bv]at h
    |s c=>
     obtain⟨t,rfl⟩:=O;obtain⟨u,rfl⟩:=T;refine kat_cons (wpAny_eqBool_str ?_);rw[bv]at h;by_cases e:a=c
     .rw[if_pos e]at h;rw[zh e];exact kat_yes (ih ys G (i+1) M h (by rw[hf];simp))
     .rw[if_neg e]at h;cases h
      rw[So e];refine kat_no ?_;cases hb:(true && i == 0) with
      |true=>exact oneLt_str q
      |false=>exact kat_one _ _ (PySem.P.lt_str q)
theorem fO {α O:Type}{F:α->O->Prop}:∀ {G:List α}{M:List O},Paired F G M->G.length=M.length
 |_,_,.nil=>rfl
 |_,_,.cons _ t=>by simp[fO t]
theorem OH {Q:Bool->Shared->Prop}{xs ys:List At}{x y:Value}{b:Bool}(hx:gh s.heap xs x)(hy:gh s.heap ys y)(h:bv xs ys=some b)(q:Q b s):wpAny (model prog w) A (keyLt' (tuples' true) x y) Q E s:=by
 obtain⟨a,o,its,n,rfl,T,_,hd,r⟩:=hx;obtain⟨U,o',its',c,rfl,G,_,M,O⟩:=hy;refine kat_lt T hd G M (HH xs ys _ _ 0 r O h ?_ q);rw[<-vG,<-vG,fO r,fO O]
theorem pZ:∀ {ks:List (List At)}{vs:LU},Paired (gh h) ks vs->(∀k∈ks,k≠[])->∃fs,KatTups h vs fs/\fs.length=ks.length/\∀v∈fs,∃k r,(k::r)∈ks/\B7 k v
 |_,_,.nil,_=>⟨[],trivial,rfl,N9⟩
 |k::ks,_,.cons x t,G=>by
  obtain⟨fs,h1,h2,h3⟩:=pZ t λz hz=>G z (mZ _ hz);obtain⟨a,o,its,n,rfl,O,hc,hd,r⟩:=x;cases M:its.toList with
  |nil=>
   rw[M]at r;cases r
   simp_all
  |cons v vs=>
   rw[M]at r;obtain⟨p,T⟩:∃p,its[0]? = some v:=⟨(),by rw[<-Array.getElem?_toList,M];rfl⟩;cases r with
   |cons q U=>
    refine⟨v::fs,KatTups.cons O hc hd T h1,by simp[h2],λu hu=>?_⟩;grind
theorem An (hp:Paired (gh s.heap) ks vs)(hf:c9 ks=true)(hn:0<ks.length)(q:Q (tuples' true) s):wpAny (model prog w) A (keyKind' vs.toArray) Q E s:=by
 have G:∀k∈ks,k≠[]:=λk hk z=>by
  subst z;unfold c9 at hf;rw[Bool.or_eq_true]at hf;rcases hf with hf|hf
  .have:=all_eq_true.mp hf [] hk;simp at this
  .have:=all_eq_true.mp hf [] hk;simp at this
 obtain⟨fs,h1,h2,h3⟩:=pZ hp G;unfold c9 at hf;rw[Bool.or_eq_true]at hf;rcases hf with hf|hf
 .refine kat_kind (T:=.type "int") h1 M9 (λv hv=>?_) V9 q;obtain⟨k,r,m,z⟩:=h3 v hv;have:=all_eq_true.mp hf _ m;cases k with
  |i n=>obtain⟨t,rfl⟩:=z;exact .now
  |s M=>simp at this
 .refine kat_kind (T:=.type "str") h1 M9 (λv hv=>?_) V9 q;obtain⟨k,r,m,z⟩:=h3 v hv;have:=all_eq_true.mp hf _ m;cases k with
  |s M=>obtain⟨t,rfl⟩:=z;exact .now
  |i n=>simp at this
end
section
variable {prog:Program}{w:World}{A:Around}{E:QV}{s:Shared}
theorem fQ {α O:Type}{F:α->O->Prop}(d:α)(e:O):∀ {G:List α}{M:List O},Paired F G M->∀ {i:Nat},i<G.length->F (G.getD i d) (M.getD i e)
 |_,_,.cons r t,0,_=>r
 |_,_,.cons r t,i+1,h=>by
  exact fQ d e t (by simpa using h)
 |_,_,.nil,i,h=>by simp at h
def B8 (ks:List (List At))(i:Nat):Int:=rZ (ks.map cC) (cC (ks.getD i []))
theorem D8 {ks:List (List At)}{vs:LU}(hc:dj ks=true)(hp:Paired (gh s.heap) ks vs):∀(i j:Nat)(C:Bool->Shared->Prop)(s1:Shared),i<ks.length->j<ks.length->s1=s->(∀s',s'=s->C (rX (B8 ks) i j) s')->kas_ask prog w A (tuples' true) vs i j C s1:=by
 intro i j C s1 hi hj e M;subst e;have G:ks.getD i []∈ks:=by simp_all
 have O:ks.getD j []∈ks:=by simp_all
 refine OH (fQ [] _ hp hi) (fQ [] _ hp hj) (iD hc G O) ?_;have:=M s1 rfl;unfold rX B8 at this;rw[Am (uS ⟨_,G,rfl⟩)]at this;exact this
theorem Fm (c:s.heap.get? a=some (seqObj "list" vs.toArray n))(hk:Paired (gh s.heap) ks vs)(hc:dj ks=true)(hf:c9 ks=true)(B:vs.length<64)
  (h:∀p:Array Nat,oZ vs.length p->Up (B8 ks) p vs.length->P (.done (.ret .none)) { s with heap:=sortedHeap s.heap a vs (List.toArray (p.toList.map λi=>vs.getD i Value.none)) }):
  wpAny (model prog w) A (Builtin.«list.sort» ⟨[.ref a],[]⟩) P E s:=by
 have ha:=vX c;have W:ks.length=vs.length:=fO hk;obtain⟨d,f⟩:∃d,(s.heap.update a (Obj.mapSeq λ_=>#[])).get? a=some (seqObj "list" #[] d):=⟨_,get?_update_seq c (λ_=>#[])⟩;let T:Heap:=((s.heap.update a (Obj.mapSeq λ_=>#[])).push (seqObj "tuple" vs.toArray 0)).push (seqObj "list" #[] 0);have D:∀b u,b≠a->s.heap.get? b=some u->T.get? b=some u:=λb u hb q=>
  vZ _ (vZ _ ((Heap.get?_update_ne _ _ _ _ hb).trans q))
 have g:T.get? a=some (seqObj "list" #[] d):=vZ _ (vZ _ f);have l:Paired (gh T) ks vs:=L2.Paired.mapP hk λk v x=>x.keep λb u X q=>D b u (λz=>by
  lia) q
 rw[list_sort_plain];refine wX (listItems_at c rfl (wX (listUpdate_at c rfl (wX (seqEpoch_at f rfl (wX (wpAny_newTuple (wX (wpAny_newList (wpAny_holding ?_))) (by show vs.length<=sizeLine;rw[sizeLine_eq];lia))))))));dsimp only;have U:∀(st:SortSt)(p:Array Nat),arrOf st=p.map (kas_item (vs.toArray.zip vs.toArray))->failedOf st=none->oZ vs.length p->Up (B8 ks) p vs.length ->
   wpAny (model prog w) A (do
    let M:=(<-seqEpoch a) != d
    Builtin.List.listUpdate (.ref a) λ_=>(arrOf st).map (·.2)
    if let some e:=failedOf st then rule "list.sort.comparison-raised";throw e
    if M then rule "list.sort.modified";raiseError "ValueError" "list modified during sort"
    ret .none) P E { s with heap:=T }:=λst p F H m I=>by
  have o :=kat_snds rfl F;refine wX (seqEpoch_at g rfl ?_);refine wX (listUpdate_at g rfl ?_ (hsz2:=by rw[o];simp only[vH,vI,vG,m.size,sizeLine_eq];lia));rw[H];simp only[bne_self_eq_false,uV,if_false];rw[o];exact wY (h p m I)
 by_cases h2:vs.toArray.size<2
 .rw[if_pos h2,if_pos h2];refine wX (wY ?_);rw[StateT.run_pure];refine wX (wY ?_);have Y:vs.length<2:=by simpa using h2
  refine U _ (List.toArray (List.range vs.length)) ?_ rfl ⟨N9,N9⟩ ?_
  .show vs.toArray.zip vs.toArray=_;have:=kas_range (vs.toArray.zip vs.toArray);rw[show(vs.toArray.zip vs.toArray).size=vs.length by simp]at this;exact this.symm
  .intro i j J hj;have:i=j:=M9
   subst this;exact Int.le_refl _
 .rw[if_neg h2,if_neg h2];have K:2<=vs.length:=by simp at h2;lia
  refine wX (An (s:={ s with heap:=T }) l hf M9 ?_);obtain⟨p,L,N,R⟩:=Al (n:=vs.length) (rk:=B8 ks) M9;refine wX (wpAny_mono (kat_run (E:=E) (ks:=vs) (vs:=vs) (κ:=tuples' true) (s:={ s with heap:=T }) (Q:=λO s'=>s'={ s with heap:=T }/\arrOf O=p.map (kas_item (vs.toArray.zip vs.toArray))/\failedOf O=none)
   (G:=λt s'=>t=p/\s'={ s with heap:=T }) rfl K B (λt O s' _ e2 y Z=>by
    simp_all) (Run.wp (λs'=>s'={ s with heap:=T }) (λi j C s1 hi hj e S=>D8 (s:={ s with heap:=T }) hc l i j C s1 M9 M9 e S) L rfl λs' e=>⟨rfl,e⟩)) (λr s' V=>?_) λ_ _ z=>z)
  obtain⟨⟨⟩,O⟩:=r;obtain⟨rfl,e2,y⟩:=V;exact U O p e2 y N R
theorem Ao (hl:s.heap.IsList l vs.toArray)(hk:Paired (gh s.heap) ks vs)(hc:dj ks=true)(hf:c9 ks=true)(M:vs.length<64)
  (h:∀p:Array Nat,oZ vs.length p->Up (B8 ks) p vs.length->Q (.ref (s.heap.objs.size+1)) { s with heap:=sortedAll s.heap vs (List.toArray (p.toList.map λi=>vs.getD i Value.none)) }):
  wpAny (model prog w) A (call (.builtin "sorted") [.ref l]) Q E s:=by
 let h1 :=(s.heap.push (seqObj "list" #[] 0)).update s.heap.objs.size (Obj.mapSeq (· ++ vs.toArray));have hsz:h1.objs.size=s.heap.objs.size+1:=by grind[Heap.size_update,size_push']
 let h2:Heap:=h1.push (seqObj "list" vs.toArray 0);have G:h2.get? (s.heap.objs.size+1)=some (seqObj "list" vs.toArray 0):=by rw[<-hsz];exact vY _ rfl
 have O:Paired (gh h2) ks vs:=L2.Paired.mapP hk λk v x=>x.keep λb u _ q=>
  vZ _ ((Heap.get?_update_ne _ _ _ _ (vS (vX q))).trans (vZ _ q))
 refine Calls.call_function_entry kind_sorted plain_sorted entry_sorted (args_sorted1 _) ?_;refine wX  (wY (wX (collect_list hl (wX (wpAny_newList ?_)))));rw[show((s.heap.push _).update _ _).objs.size=s.heap.objs.size+1 from hsz];exact wX (wpAny_holding (wpAny_call_entry slot_list_sort ⟨_,G,rfl⟩ entry_list_sort (Fm G O hc hf M λp T U=>⟨_,rfl,wY ⟨_,rfl,h p T U⟩⟩) (args_list_sort _)))
end
end DL
namespace DL
open PySem PySem.Spec PySem.W PyProof.Rows L2
noncomputable def wH:D->Option At
 |.int n=>some (.i n)
 |.str z=>some (.s z)
 |_=>none
def km:LD->Option (List At)
 |[]=>some []
 |d::ds=>(wH d).bind λa=>(km ds).map (a :: ·)
def p6:D->Option (List At)
 |.tup es=>km es
 |_=>none
def ee:LD->Option (List (List At))
 |[]=>some []
 |d::ds=>(p6 d).bind λa=>(ee ds).map (a :: ·)
def HI (d:D):LI:=cC ((p6 d).getD [])
noncomputable def kT:LD->Option LI
 |[]=>some []
 |.int n::ds=>(kT ds).map (n :: ·)
 |_::_=>none
def qc (ns:LI):LI:=dR (λn=>[n]) ns
def fH:LD->OB
 |[.lst ds]=>match ga ds with
  |some ss=>if ss.length<64 then some (.lst ((mC ss).map .str),true)else none
  |none=>match kT ds with
   |some ns=>if ns.length<64 then some (.lst ((qc ns).map .int),true)else none
   |none=>match ee ds with
    |some ks=>if ks.length<64/\dj ks=true/\c9 ks=true then some (.lst (dR HI ds),true)else none
    |none=>none
 |_=>none
theorem Fo (h:wH d=some a)(k:wH e=some a):d=e:=by
 cases d<;>simp  [wH]at h<;>cases h<;>cases e<;>simp  [wH]at k<;>cases k<;>rfl
theorem sd:∀ {ds es:LD}{as:List At},km ds=some as->km es=some as->ds=es
 |[],[],_,_,_=>rfl
 |[],e::es,as,h,k=>by
  cases h
  obtain⟨a,_,k⟩:=oX k;simp_all
 |d::ds,[],as,h,k=>by
  cases k
  obtain⟨a,_,h⟩:=oX h;simp_all
 |d::ds,e::es,as,h,k=>by
  obtain⟨a,h1,h⟩:=oX h;obtain⟨r,h2,h⟩:=oY h;obtain⟨O,k1,k⟩:=oX k;obtain⟨T,k2,k⟩:=oY k;subst h;injection k with G M;subst G;subst M;rw[Fo h1 k1,sd h2 k2]
theorem HJ (h:p6 d=some k)(h':p6 e=some k):d=e:=by
 cases d<;>simp  [p6]at h<;>try (cases h)
 cases e<;>simp  [p6]at h'<;>try (cases h')
 rw[sd h h']
theorem gE:∀ {ds:LD}{ks:List (List At)},ee ds=some ks->ks.length=ds.length
 |[],_,h=>by simp_all[ee]
 |d::ds,_,h=>by
  obtain⟨a,h1,h⟩:=oX h;obtain⟨r,h2,h⟩:=oY h;subst h;simp[gE h2]
theorem jI:∀ {ds:LD}{ks:List (List At)},ee ds=some ks->∀ {i:Nat},i<ds.length->p6 (ds.getD i .non)=some (ks.getD i [])
 |[],_,h,i,hi=>by simp at hi
 |d::ds,_,h,0,hi=>by
  obtain⟨a,h1,h⟩:=oX h;obtain⟨r,h2,h⟩:=oY h;subst h;exact h1
 |d::ds,_,h,i+1,hi=>by
  obtain⟨a,h1,h⟩:=oX h;obtain⟨r,h2,h⟩:=oY h;subst h;exact jI h2 (by simpa using hi)
theorem se {α:Type}(l:List α)(d:α):(List.range l.length).map (λi=>l.getD i d)=l:=by
 apply ext_getElem?;intro i;by_cases h:i<l.length
 .simp[h]
 .simp[h]
theorem Cj (hk:ee ds=some ks)(hc:dj ks=true)(M:oZ ds.length p)(U:Up (B8 ks) p ds.length):p.toList.map (λi=>ds.getD i .non)=dR HI ds:=by
 have mem:∀x∈ds,∃k∈ks,p6 x=some k:=λx hx=>by
  obtain⟨i,hi,rfl⟩:=List.mem_iff_getElem.mp hx;have:=jI hk hi;rw[vF,vU hi]at this;refine⟨_,?_,this⟩;have G:i<ks.length:=by rw[gE hk];exact hi
  rw[vF,vU G];exact getElem_mem G
 apply jH HI
 .grind[HI,mi,HJ]
 .have:=M.perm.map (λi=>ds.getD i .non);rw[se]at this;exact this
 .rw[List.pairwise_iff_getElem];intro i j hi hj O;have hsz:=M.size;have G:i<p.size:=by simpa using hi
  have f:j<p.size:=by simpa using hj
  have:=U i j (le_of_lt O) M9;unfold c8 B8 at this;have a:p.getD i 0=p[i]:=by simp_all
  have b:p.getD j 0=p[j]:=by simp_all
  have c:=M.lt (k:=i) M9;have T:=M.lt (k:=j) M9;have d:ks.getD (p.getD j 0) []∈ks:=by
   have h':p.getD j 0<ks.length:=by rw[gE hk];exact T
   rw[vF,vU h'];exact getElem_mem h'
  have e:¬cC _<cC (ks.getD (p.getD i 0) []):=λz=>by
   have:=y0 (cs:=ks.map cC) (uS ⟨_,d,rfl⟩) z;lia
  simp only[List.getElem_map,Array.getElem_toList];unfold HG HI;rw[<-a,<-b,jI hk c,jI hk T];exact e
section
variable {X:Cx}
theorem Ap {K:Frag}{B:Hp}:∀ {vs:LV}{es:LD}{k:List At}{its:LU},bg vs its->IsL K B vs es->km es=some k->Paired B7 k its
 |_,_,_,_,.nil,.nil,h=>by cases h;exact .nil
 |_,_,_,_,.cons r G,.cons i M,h=>by
  obtain⟨a,h1,h⟩:=oX h;obtain⟨t,h2,h⟩:=oY h;subst h;refine .cons ?_ (Ap G M h2);cases i<;>simp  [wH]at h1<;>cases h1
  .exact r
  .exact r
theorem oh {ag:AO}{σ:St}{H:Hp}{s:Shared}(I:Inv X ag σ H s):∀ {ys:LV}{ds:LD}{ks:List (List At)}{its:LU},bg ys its->IsL X.K H ys ds->ee ds=some ks->Paired (gh s.heap) ks its
 |_,_,_,_,.nil,.nil,h=>by cases h;exact .nil
 |_,_,_,_,.cons r G,.cons i M,h=>by
  obtain⟨a,h1,h⟩:=oX h;obtain⟨t,h2,h⟩:=oY h;subst h;refine .cons ?_ (oh I G M h2);cases i<;>simp  [p6]at h1<;>try (cases h1)
  rename_i hq hl;cases r
  obtain⟨its',O,⟨o,T,hc,n,hd⟩,_⟩:=I.tuple hq;exact⟨_,o,_,n,rfl,T,hc,hd,by simpa using Ap O hl h1⟩
theorem D9 {K:Frag}{B:Hp}:∀ {vs:LV}{ds:LD},IsL K B vs ds->∀ {i:Nat},i<ds.length->Is K B (vs.getD i .non) (ds.getD i .non)
 |_,_,.cons h _,0,_=>h
 |_,_,.cons _ t,i+1,hi=>by
  exact D9 t (by simpa using hi)
 |_,_,.nil,i,hi=>by simp at hi
theorem Aq:∀ {vs:LV}{us:LU},bg vs us->∀ {i:Nat},i<vs.length->aX (vs.getD i .non) (us.getD i Value.none)
 |_,_,.cons h _,0,_=>h
 |_,_,.cons _ t,i+1,hi=>by
  exact Aq t (by simpa using hi)
 |_,_,.nil,i,hi=>by simp at hi
theorem oi {K:Frag}{B:Hp}{vs:LV}{ds:LD}(h:IsL K B vs ds):∀(l:LN),(∀i∈l,i<ds.length)->IsL K B (l.map λi=>vs.getD i .non) (l.map λi=>ds.getD i .non)
 |[],_=>.nil
 |i::l,hl=>.cons (D9 h (hl i (mX ..))) (oi h l λj hj=>hl j (mZ _ hj))
theorem p7 (h:bg vs us):∀(l:LN),(∀i∈l,i<vs.length)->bg (l.map λi=>vs.getD i .non) (l.map λi=>us.getD i Value.none)
 |[],_=>.nil
 |i::l,hl=>.cons (Aq h (hl i (mX ..))) (p7 h l λj hj=>hl j (mZ _ hj))
end
section
variable {X:Cx}
theorem DA {K:Frag}{B:Hp}:∀ {vs:LV}{ds:LD}{ns:LI}{its:LU},bg vs its->IsL K B vs ds->kT ds=some ns->IntsAre its ns
 |_,_,_,_,.nil,.nil,h=>by cases h;exact .nil
 |_,_,_,_,.cons r G,.cons i M,h=>by
  cases i<;>simp only[kT]at h<;>try (cases h)
  obtain⟨t,h2,h⟩:=oY h;subst h;obtain⟨u,rfl⟩:=r;exact .cons _ u (DA G M h2)
theorem wI:∀ {its:LU}{zs:LS},StrsAre its zs->bg (zs.map V.str) its
 |_,_,.nil=>.nil
 |_,_,.cons x t r=>.cons ⟨t,rfl⟩ (wI r)
theorem iC:∀ {its:LU}{zs:LI},IntsAre its zs->bg (zs.map V.int) its
 |_,_,.nil=>.nil
 |_,_,.cons x t r=>.cons ⟨t,rfl⟩ (iC r)
theorem oj {K:Frag}{N:Hp}:∀(zs:LI),IsL K N (zs.map V.int) (zs.map D.int)
 |[]=>.nil
 |z::zs=>.cons (.int z) (oj zs)
theorem Ar (p:G.Perm l)(h:G.Pairwise (·<=·)):G=qc l:=by
 refine jH _ (λx _ y _ e=>by injection e) p (h.imp λ{a b} M=>?_);grind[HG,cons_lt_cons_iff]
theorem mV (I:Inv X ag σ H s)(M:bc B H)(q:Fin X.K B H (.lst ds) true Q)(hv:bg ys out.toList)(hl:IsL X.K B ys ds)(hz:ys.length<=sizeLine):
  EP X ag σ Q (.ref (s.heap.objs.size+1)) { s with heap:=sortedAll s.heap its out }:=by
 obtain⟨e,he⟩:=sortedAll_at _ _ _;have hp :=I.hok.fresh (le_succ _);have G:=Ext.laid (o:=.lst ys) M hp;exact⟨.ref _,_,I.laid  (λb o=>sortedAll_old) (le_succ _) (show bP _ _ _ _ _ (.lst ys)from ⟨hz,out.toList,e,hv,he⟩),rfl,
  q _ _ _ G (.lst (ii.of a8) (hl.mono G.bn)) λ_=>⟨_,_,_,rfl,rfl,hp,a8,hl.mono G.bn⟩⟩
theorem HK:cn X (.builtin "sorted") (Di X.K fH):=by
 intro ag s σ H xs us Q I r h;obtain⟨B,dl,d,bb,O,i,M,q⟩:=h;cases i with
 |nil=>simp[fH]at M
 |cons i1 i2=>
  cases i2 with
  |cons _ _=>cases i1<;>simp[fH]at M
  |nil=>
   cases i1<;>try (simp[fH]at M;done)
   rename_i v vs ds h hl;obtain⟨u,rfl,m⟩:=ij r;cases m
   obtain⟨its,T,pl,hz⟩:=I.list (O.seq h);have w:vs.length=its.length:=T.length;have n:ds.length=vs.length:=hl.length.symm;simp only[fH]at M;split at M
   .rename_i ss es;split at M
    .rename_i U;cases M
     have G:=iN T hl es;have o:its.length=ss.length:=by rw[<-G.strs,vI]
     refine sorted_strs pl.isList (by simpa using G) M9 λout b c f g=>?_;have e:=wD f g;subst e;exact mV I O q (wI c) (nZ _) (by rw[vI,(dH ss).length_eq,sizeLine_eq];simp_all<;>lia)
    simp_all
   .split at M
    .rename_i ns es;split at M
     .rename_i U;cases M
      have G:=DA T hl es;have o:its.length=ns.length:=IntsAre.length G;refine sorted_ints pl.isList (by simpa using G) M9 λout b c f g=>?_;have e:=Ar f g;subst e;exact mV I O q (iC c) (oj _) (by rw[vI];unfold qc;rw[(bp _ ns).length_eq,sizeLine_eq];simp_all<;>lia)
     simp_all
    .split at M
     .rename_i ks es;split at M
      .rename_i hh;obtain⟨U,hc,hf⟩:=hh;cases M
       have x:=gE es;have G:=oh I T (hl.mono O) es;refine Ao pl.isList (by simpa using G) hc hf M9 λp a j=>?_;have t:its.length=ds.length:=M9
       rw[t]at a j;have e:=Cj es hc a j;have k:∀i∈p.toList,i<ds.length:=λi hi=>mem_range.mp (a.perm.mem_iff.mp hi);have l:=oi hl p.toList k;rw[e]at l;refine mV I O q  ?_ l ?_
       .simpa using p7 T p.toList λi hi=>by rw[<-n];exact k i hi
       .rw[vI,vG,a.size,sizeLine_eq];lia
      simp_all
     simp_all
end
end DL
namespace DL
open PySem PySem.Spec PyProof.Rows L2
section
variable {X:Cx}{e:Expr}{pos pos2 p p2:Pos}
theorem vq:cn X (.builtin "len") (λxs H Q=>∃S G,xs=[.ref S]/\H S=some (Ah X S G)/\Q (.int (G.length:Nat)) H):=by
 intro ag s σ H xs us Q I r h;obtain⟨S,G,rfl,O,q⟩:=h;obtain⟨u,rfl,T⟩:=ij r;cases T
 have U :=(I.hok S _ O).1;obtain⟨o,es,c,t,a,M,hd,d,hp,nd,hb,hf,_⟩:=U;have sz:es.size=G.length:=by rw[<-hp.length_eq,vI,vG]
 have b:G.length<4096:=hb;exact PySem.call_len_set a M hd hf (by rw[sz];lia) ⟨.int _,H,I.tok _,⟨_,by rw[sz]⟩,q⟩
theorem Fp (hc:X.calm=true)(m1:X.mg "len" = none)(m2:X.mg "set" = none)(he:JE X e f)(g1:Gl X "len":=by rfl)(a:Gl X "set":=by rfl)
  (h1:starEach [e] X.env=(false,eval e X.env)::starEach [] X.env:=by rfl):JE X (.Call (.Name "len" p) [.Call (.Name "set" p2) [e] [] pos2] [] pos) (f1 D4 f):=by
 refine PE.to (rj vq g1 m1 cQ (fF (pi (pY hc) a m2 MQ (fF he hW h1) (he:=h1)) hW)) λσ H Q q=>?_;obtain⟨B,ρ,d',bb,b,r,G,q⟩:=q;obtain⟨O,ex,G⟩:=oX G;refine⟨B,ρ,O.1,O.2,b,r,ex,λv i N1 M i1 j=>?_⟩;obtain⟨xd,k⟩:=O;cases i1<;>try (simp  at G)
 rename_i l vs ds h hl;obtain⟨ss,c,G⟩:=oX G;split at G
 .rename_i T;cases G
  refine⟨_,_,ss,rfl,M.nh.seq h,λits d=>iN d hl c,T,λS g=>⟨S,_,rfl,a8,?_⟩⟩;have U:=Ext.laid (o:=Ah X S (gX ss)) M.nh g;exact(q.into (M.trans U)).one (M.trans U).nh (.int _)
 .cases G
end
section
variable {X:Cx}{pos:Pos}
theorem HL {K:Frag}{B:Hp}:∀ {vs:LV}{ds:LD}{ns:LI},IsL K B vs ds->kT ds=some ns->vs=ns.map V.int
 |_,_,_,.nil,h=>by simp_all[kT]
 |_,_,_,.cons i G,h=>by
  cases i<;>simp only[kT]at h<;>try (cases h)
  obtain⟨t,h2,h⟩:=oY h;subst h;rw[HL G h2];rfl
end
section
variable {X:Cx}{a:Expr}{pos:Pos}{x:Str}{p:Pos}{d:Addr}{aR:List (Str×D)}
theorem Fq (cd:nW X.K X.w.params d aR):dU X (compareOp .NotIn) (λx y H Q=>∃z,x=.str z/\y=.ref d/\Q (.bl (!(aR.lookup z).isSome)) H):=by
 rintro ag s σ H _ _ v u Q I M O ⟨z,rfl,rfl,q⟩;cases O
 obtain⟨t,rfl⟩:=M;obtain⟨f,T,U,hf⟩:=cd.map I;refine wpAny_notIn_of (strKind_is _ _ z t) U T ⟨.bl _,H,I.tok _,?_,q⟩;have:=hf z;cases G:aR.lookup z with
 |none=>rw[G]at this;rw[this];rfl
 |some dd=>rw[G]at this;obtain⟨_,_,b,_⟩:=this;rw[b];rfl
theorem Fs (h:∃d,X.mg x=some (.ref d)/\nW X.K X.w.params d aR)(ha:JE X a f)(U:Gl X x:=by rfl)(hd:(x == ("__debug__" : Str))=false:=by decide)(hm:behindInMarks .NotIn (.Name x p)=false:=by rfl):JT X (.Compare a [.NotIn] [.Name x p] pos) (aY (f1 (Cb aR) f)):=by
 obtain⟨d,M,cd⟩:=h;refine PT.to (CV (Fq cd) ha (qP (v:=.ref d) U M rfl hd) hm) λσ H Q q=>?_;obtain⟨B,ρ,d',bb,b,r,G,q⟩:=yf q;obtain⟨O,ex,G⟩:=oX G;refine⟨B,ρ,O.1,O.2,b,r,ex,λv c N1 T i1 e=>?_⟩;obtain⟨xd,g⟩:=O;cases i1<;>try (simp  at G;done)
 rename_i z;cases G
 exact⟨z,rfl,rfl,(q.into T).one T.nh (.bl _)⟩
end
section
variable {prog:Program}{w:World}{A:Around}{E:QV}{s:Shared}
theorem Ck {a:Addr}{o:Obj}{its:AV}{n:Nat}{x:Value}{e:Value->Bool}{j:Nat}{P:PySem.Fin->Shared->Prop}(T:s.heap.get? a=some o)(hd:o.data=.seq its n)
  (he:∀y∈its,MeetsSeq.EqGives y x (e y)) (hj:j<its.size) (Kj:e its[j]=true) (G:∀m (hm:m<its.size),m<j->e its[m]=false)
  (h:P (.done (.ret (.int j s.toks))) { s with toks:=s.toks+1 }):wpAny (model prog w) A (Builtin.«tuple.index» ⟨[.ref a,x],[]⟩) P E s:=by
 show wpAny _ _ (Builtin.Tuple.tupleItemsOf _>>=_) _ _ s;refine wX (wpAny_tupleItemsOf T hd ?_);refine wX (wY (wX (wY (wX ?_))));rw[Std.Legacy.Range.forIn_eq_forIn_range'];refine wpAny_forIn_list _
  (λay r s'=>r.1=none/\s'=s/\∃i,i<=j/\ay=List.range' i (its.size - i))
  _ ?_ ?_ _ _ ⟨rfl,rfl,0,uN _,?_⟩
 .rintro k ay r s' ⟨c,rfl,i,hi,hz⟩;have U:i<its.size:=M9
  obtain⟨m,hm⟩:∃m,its.size - i=m+1:=⟨its.size - i - 1,M9⟩;rw[hm]at hz;injection hz with M d;have M:=M.symm;subst M;have b:its[i]? = some its[i]:=N9
  simp only[b];refine wX (he _ (Array.getElem_mem _) _ w _ _ _ _ ?_);by_cases O:i=j
  .subst O;rw[Kj];refine wX ?_;exact wX (wpAny_mkInt (wY (wY (wY h))))
  .rw[G i _ M9];exact wY ⟨rfl,rfl,i+1,M9,by grind⟩
 .grind
 .simp
end
theorem CRows.findT {K:Frag}{P:Params}(y:Str){ds:LD}:∀ {es:List DictEntry}{aR:List (Str×D)},CRows K P es aR->aR.lookup y=some (.tup ds) ->
  ∃e a its n mv,es.find? (λe=>Value.isStrOf y e.key)=some e/\e.val=.ref a/\K.lookup a=some ⟨.type "tuple",none,.seq its n,mv⟩/\kh its.toList ds=true
 |_,_,.nil,h=>by simp at h
 |_,_,.tup (x:=x) (t:=t) (a:=a) (ds:=M) hh l f tl,h=>by
  by_cases e:y=x
  .subst e;rw[lookup_cons_self]at h;cases h
   rw[vC]at f;exact⟨_,a,_,_,_,List.find?_cons_of_pos (by simp[Value.isStrOf]),rfl,l,f.2⟩
  .rw[lookup_cons,beq_eq_false_iff_ne.mpr e]at h;have G:Value.isStrOf y (Value.str x t)=false:=by
    rw[Bool.eq_false_iff];intro z;obtain⟨t',q⟩:=Value.isStrOf_shape z;simp_all
   simp only[find?_cons,G];exact tl.findT y h
 |_,_,.flat (x:=x) (t:=t) (u:=u) (d:=d) hh f tl,h=>by
  by_cases e:y=x
  .subst e;rw[lookup_cons_self]at h;cases h
   cases u<;>simp[yo]at f
  .rw[lookup_cons,beq_eq_false_iff_ne.mpr e]at h;have G:Value.isStrOf y (Value.str x t)=false:=by
    rw[Bool.eq_false_iff];intro z;obtain⟨t',q⟩:=Value.isStrOf_shape z;simp_all
   simp only[find?_cons,G];exact tl.findT y h
section
variable {X:Cx}{b e:Expr}{pos:Pos}{x:Str}{p:Pos}
def Ux (K:Frag):V->LV->Hp->VK->Prop:=λx xs H Q=>∃(a:Addr)(o:Obj)(its:AV)(n:Nat)(zs:LS)(y:Str),x=.ref a/\xs=[.str y]/\K.lookup a=some o/\o.cls=.type "tuple"/\o.data=.seq its n/\StrsAre its.toList zs/\zs.findIdx (· == y)<zs.length/\Q (.int (zs.findIdx (· == y):Nat)) H
noncomputable def MT (y:Str):Value->Bool
 |.str z _=>z == y
 |_=>false
theorem DB:∀ {its:LU}{zs:LS},StrsAre its zs->∀(i:Nat)(hi:i<its.length),∃(h:i<zs.length)(t:Tok),its[i]=.str zs[i] t
 |_,_,.cons z t h,0,_=>⟨N9,t,rfl⟩
 |_,_,.cons z t h,i+1,hi=>by
  obtain⟨h',t',e⟩:=DB h i (by simpa using hi);simp_all
 |_,_,.nil,i,hi=>by simp at hi
theorem As:∀ {its:LU}{zs:LS},StrsAre its zs->its.length=zs.length
 |_,_,.nil=>rfl
 |_,_,.cons _ _ h=>by rw[vE,vE,As h]
theorem HM:K2 X "tuple.index" (Ux X.K):=by
 intro ag s σ H x xs v us Q I T U h;obtain⟨a,o,its,n,zs,y,rfl,rfl,c,hc,hd,hz,hk,q⟩:=h;cases T
 obtain⟨u,rfl,⟨t,rfl⟩⟩:=U.one;have O:=I.kIn a o c;have hl:=As hz;rw[vG]at hl;have at':∀(i:Nat)(hi:i<its.size),∃(h:i<zs.length)(t:Tok),its[i]=.str zs[i] t:=λi hi=>by
  obtain⟨h',t',e⟩:=DB hz i (by simpa using hi);exact⟨h',t',by simpa using e⟩
 refine wpAny_call_entry PySem.F.slot_tuple_index ⟨o,O,hc⟩ PySem.F.entry_tuple_index (Ck (e:=MT y)  O hd (λz hm=>?_) M9 ?_ (λm hm M=>?_) ⟨_,rfl,.int _,H,I.tok _,⟨_,rfl⟩,q⟩) (PySem.F.args_tuple_index_2 _ _)
 .obtain⟨i,hi,rfl⟩:=Array.mem_iff_getElem.mp hm;obtain⟨_,t',G⟩:=at' i hi;rw[G];exact eqGives_str _ _ _ _
 .obtain⟨_,t',G⟩:=at' (zs.findIdx (· == y)) M9;rw[G];exact List.findIdx_getElem  (w:=hk)
 .obtain⟨_,t',G⟩:=at' m hm;rw[G];have:=List.not_of_lt_findIdx   M;simpa [MT]using this
@[simp] def mW (aR:List (Str×D)):D->D->OB
 |.str y,.str z=>match aR.lookup y with
  |some (.tup ds)=>(ga ds).bind λzs=>if zs.findIdx (· == z)<zs.length then some (.int (zs.findIdx (· == z):Nat),false)else none
  |_=>none
 |_,_=>none
theorem Lk {aR:List (Str×D)}{f g:FE}{di cj:Pos}(h:∃d,X.mg x=some (.ref d)/\nW X.K X.w.params d aR)(hb:JE X b f)(he:JE X e g)(A:Gl X x:=by rfl)(C:(x == ("__debug__" : Str))=false:=by decide)(hs:qQ b:=by intro _ _;rfl)
  (M:attributeBase (.Subscript (.Name x p) b pos) "index" X.env (eval (.Subscript (.Name x p) b pos) X.env)=eval (.Subscript (.Name x p) b pos) X.env:=by rfl)
  (T:((backTo cj (starEach [e] X.env)).all (λx=>!x.1) && (backToKw cj (keywordEach [] X.env)).all (λx=>x.1.isSome)
   && decide ([e].length+([]:List Keyword).length+(if([]:List Keyword).isEmpty then 0 else 1)<30))=true:=by rfl)
  (O:(di.endLine == cj.line)=true:=by rfl) (U:starEach [e] X.env=[(false,eval e X.env)]:=by rfl):
  JE X (.Call (.Attribute (.Subscript (.Name x p) b pos) "index" di) [e] [] cj) (f2 (mW aR) f g):=by
 obtain⟨d,hm,cd⟩:=h;have E:GF X (λx y H Q=>∃z ds,x=.ref d/\y=.str z/\aR.lookup z=some (.tup ds)/\∀a its n mv,X.K.lookup a=some ⟨.type "tuple",none,.seq its n,mv⟩->kh its.toList ds=true->Q (.ref a) H):=by
  intro c i ag s σ H x y v u Q I J L q hs;obtain⟨z,ds,rfl,rfl,j,q⟩:=q;cases J
  obtain⟨t,rfl⟩:=L;obtain⟨es,n,l,r,sm⟩:=cd;have m:=PySem.W.mapOf_K (prog:=X.prog)  I.kIn l r.lit;obtain⟨en,a,its,n',mv,e1,e2,N,P⟩:=r.findT z j;have R:findBy Value.isStrOf es z=some (.ref a):=by
   simp_all[findBy]
  exact tail_any m.typeIs slot_dict_getitem.lookup (wpAny_getItem_of (strKind_is X.prog X.w z t) m R ⟨.ref a,H,I.tok _,rfl,q a _ _ _ N P⟩) hs
 refine PE.to (zr  PySem.F.plainAttrs_tuple PySem.F.slot_tuple_index PySem.F.type_tuple_index HM (GG E (qP (v:=.ref d) A hm rfl C) hb hs) (fF he hW U) M T O U rfl) λσ H Q q=>?_;obtain⟨B,ρ,d',bb,S,r,G,q⟩:=q;obtain⟨V,ex,G⟩:=oX G;obtain⟨Y,Z,G⟩:=oX G;obtain⟨xd,xb⟩:=V;obtain⟨yd,yb⟩:=Y;cases xd with
 |str z=>
  cases yd with
  |str y=>
   refine⟨B,ρ,_,xb,S,r,ex,λv H1 N1 k i1 _=>?_⟩;cases i1
   simp only[mW]at G;split at G
   .rename_i ds j;obtain⟨zs,ez,G⟩:=oX G;split at G
    .rename_i hk;cases G
     refine⟨z,ds,rfl,rfl,j,λa its n mv l fl=>⟨.inr (.inl ⟨rfl,_,l,rfl,rfl⟩),N1,ρ,_,yb,k.nh,r.mono k.bn,Z,λv2 H2 N2 o i2 _=>?_⟩⟩;cases i2
     obtain⟨vs,rv,iv⟩:=ki (K:=X.K) fl;exact⟨a,_,its,n,zs,y,rfl,rfl,l,rfl,rfl,iN rv (iv N2) ez,hk,(q.into (k.trans o)).one o.nh (.int _)⟩
    simp_all
   simp_all
  |_=>simp[mW]at G
 |_=>simp[mW]at G
end
open PySem.W (tabIn tabObj CodeHd kla_fn kla_obj kla_eval kla_makeFunction kla_makeFunctionHit kla_callFunE kla_codeExpr envX)
def RA (K:Frag)(c P:Addr):Prop:=∃o vs M U G tg T O a,K.lookup c=some o/\o.cls=.type "code"/\o.data=.fields vs/\vs[11]? = some (.ref P)/\vs.getD 11 .none=.ref P/\vs.getD 18 .none=.str M U /\
 vs.getD 7 .none=.int G tg/\vs.getD 9 .none=.bool T/\vs.getD 10 .none=.int O a/\c≠P
def Au (K:Frag)(x:Str):Prop:=∃c P,tabIn K x=some (c,P)/\RA K c P
def HN (H:Hp)(f:Addr)(q:Str)(params:Arguments)(G:Expr)(scope:Scope)(cl:List (Str×Addr)):Prop :=
 ∃pm c M u oc u' vs t,H f=some (.frz (kla_obj "<lambda>" q params G scope cl pm c M) u)/\H c=some (.frz oc u')/\oc.data=.fields vs/\vs[1]? = some (.str q t)
theorem HN.mono (h:HN H f q params M scope cl)(e:bc H H'):HN H' f q params M scope cl :=
 let ⟨pm,c,G,u,oc,u',vs,t,h1,h2,h3,h4⟩:=h;⟨pm,c,G,u,oc,u',vs,t,e _ _ h1,e _ _ h2,h3,h4⟩
theorem lam_mk {K:Frag}{x:Str}{f c P:Addr}{oc:Value}{od h:Option Addr}{mv T:Array (Option Value)}{fd:FuncData}{vs:AV}{M:Str}{a tg b:Tok}{G O:Int}{U:Bool}(i:nsIn K mainGlobals x=some (some (.ref f)))(e2:K.lookup f=some ⟨oc,od,.func fd,mv⟩)
  (j:fd.code=.ref c) (d:K.lookup c=some ⟨.type "code",h,.fields vs,T⟩) (e:vs[11]? = some (.ref P)) (k:vs.getD 11 .none=.ref P) (l:vs.getD 18 .none=.str M a) (m:vs.getD 7 .none=.int G tg) (n:vs.getD 9 .none=.bool U) (o:vs.getD 10 .none=.int O b) (g:(c == P)=false):Au K x :=
 ⟨c,P,tab_yes i e2 j d e,_,vs,M,a,G,tg,U,O,b,d,rfl,rfl,e,k,l,m,n,o,λz=>by rw[z]at g;simp at g⟩
theorem Cm (l:LU)(h:TriplesOk l)(e:codeAmong M (l++[rawInt a,rawInt b,c])=some O):codeAmong M l=some O\/O=c:=by
 fun_induction TriplesOk l with
 |case1=>
  simp_all[rawInt,codeAmong]
 |case2 G t b' u x ay ih=>
  simp only[cons_append,codeAmong]at e |-;split<;>simp_all
 |case3 l h1 h2=>exact h.elim
section
variable {X:Cx}{ag:AO}{σ:St}{H:Hp}{s:Shared}
theorem HP 
  (hx:x∈nM) (L:Au X.K x) (hc:∀c P,tabIn X.K x=some (c,P)->X.env.code=.ref c) (hq:X.env.qual ++ "<lambda>" = vh x) (Z:defaultsOf params X.env=([],[])) (F:closureFor scope X.env=pure cl)
  (I:Inv X ag σ H s) (tb:Tb X.K H) (k:∀f H' s',Inv X ag σ H' s'->bc H H'->HN H' f (vh x) params body scope cl->Q (.ref f) s'):
  wq X (eval (.Lambda params body scope pos) X.env) Q E s:=by
 refine kla_eval Z ?_;rw[hq];obtain⟨c,P,J,o,vs,Vw,tf,SR,tg,ZD,Vx,tt,lk,ck⟩:=L;have M:=hc c P J;have p:=tb x hx c P J;obtain⟨ps,e,y,co⟩:=I.hok P _ p;have C:CodeHd s.heap c P:=⟨o,vs,Vw,tf,SR,tg,ZD,Vx,tt,I.kIn c o lk,ck⟩;have N:s.heap.Ns mainGlobals X.mg:=I.mod.glob.keeps I.bk;have j:∀b,H b=none->b≠P:=λb n z=>by rw[z,p]at n;cases n
 have ZE:mainGlobals≠P:=by
  obtain⟨og,_,_,R,_⟩:=I.mod.glob;exact j _ (I.bs _ _ R).2
 have hb:s.heap.BuiltinsAt X.mg P:=by
  obtain⟨bm,ob,b1,b2,b3,b4,b5,b6⟩:=I.mod.bmain;refine⟨bm,ob,b1,b2,λz=>?_,j _ (I.bs _ _ b3).2,I.bk _ _ b3,b4,b5,b6⟩;obtain⟨og,es,ep,R,dg,_⟩:=I.mod.glob;simp_all
 cases hf:codeAmong pos ps.toList with
 |some cv=>
  obtain⟨G,oc,u,ws,t,rfl,hH,hd,hv⟩:=co pos cv hf;refine kla_makeFunctionHit (mg:=X.mg) F I.ok.glob N M C e y hf hb λO h' tk hk hsz=>?_;have hn:H h'.objs.size=none:=I.hok.fresh hsz;have T:bc H (upd H h'.objs.size (.frz (kla_obj "<lambda>" (vh x) params body scope cl ((X.mg "__name__").getD .none) G O) (.own h'.objs.size))):=λb u q=>by rw[aK (bi q hn)];exact q
  refine k _ _ _ (I.laid (t':=tk) (λb u q=>vZ _ (hk b u q)) hsz (show bP X.prog X.w _ _ _ (.frz _ (.own h'.objs.size))from ⟨vY _ rfl,_,vY _ rfl⟩)) T ?_;exact⟨_,G,O,_,oc,u,ws,t,a8,T _ _ hH,hd,hv⟩
 |none=>
  refine kla_makeFunction (mg:=X.mg) F I.ok.glob N M C e y hf ZE hb λG O h' tk hx' a S g A=>?_;obtain⟨c2,oc,ws,t,e2,V,hd,hv⟩:=g;cases e2
  have Vy:H G=none:=I.hok.fresh a;have hsz:s.heap.objs.size<=h'.objs.size:=vR a (le_of_lt S);have ZF:H h'.objs.size=none:=I.hok.fresh hsz;have ZG:G≠h'.objs.size:=vS S;let h:Obj:=kla_obj "<lambda>" (vh x) params body scope cl ((X.mg "__name__").getD .none) G O;let l:Hp:=upd (upd H G (.frz oc (.own G))) h'.objs.size (.frz h (.own h'.objs.size));have T:bc H l:=λb u q=>by
   show upd _ _ _ b=_;rw[aK (bi q ZF),aK (bi q Vy)];exact q
  have B:l G=some (.frz oc (.own G)):=by show upd _ _ _ G=_;rw[aK ZG,a8]
  have keep:∀b u,b≠P->s.heap.get? b=some u->(h'.push h).get? b=some u:=λb u n q=>vZ _ (hx' b u n q);have lt:∀b u,s.heap.get? b=some u->b≠G/\b≠h'.objs.size:=λb u q=>⟨vS (vQ (vX q) a),vS (vQ (vX q) hsz)⟩;have U:(h'.push h).get? P=some (tabObj (ps++#[rawInt pos.line,rawInt pos.col,.ref G])):=vZ _ A;refine k _ l _ (I.un (t':=tk) (h':=h'.push h) ⟨λb u q n _ _=>keep b u (j b n) q,λb u q n _ _=>⟨u.slots,keep b u (j b n) q⟩,λb u q n _=>?_,λb u q _=>?_,λb xs q=>T _ _ q,λb ob u q=>T _ _ q,λb u q=>T _ _ q⟩ λb u q=>?_) T ⟨_,G,O,_,oc,_,ws,t,a8,B,hd,hv⟩
  .show upd _ _ _ b=_;rw[aK (lt b u q).2,aK (lt b u q).1];exact n
  .by_cases z:b=P
   .subst z;exact⟨_,U⟩
   .exact⟨u,keep b u z q⟩
  .by_cases W:b=h'.objs.size
   .subst W;have i:some (HO.frz h (.own h'.objs.size))=some u:=by rw[<-q];exact a8.symm
    cases i
    exact⟨vY _ rfl,_,vY _ rfl⟩
   .by_cases Y:b=G
    .subst Y;rw[B]at q;cases q;exact⟨vZ _ V,_,vZ _ V⟩
    .have i:H b=some u:=by
      have:l b=H b:=by show upd _ _ _ b=_;rw[aK W,aK Y]
      rw[<-this];exact q
     by_cases z3:b=P
     .subst z3;rw[p]at i;cases i;refine⟨_,U,?_,λpT D m=>?_⟩
      .simp_all[TriplesOk_snoc]
      .rw[Array.toList_append]at m;rcases Cm _ y m with m|rfl
       .obtain⟨c3,ZH,u3,ZI,t3,y1,y2,y3⟩:=co pT D m;exact⟨c3,ZH,u3,ZI,t3,y1,T _ _ y2,y3⟩
       .exact⟨G,oc,_,ws,t,rfl,B,hd,hv⟩
     .refine(I.hok b u i).stay (λd v Xa r=>keep d v ?_ r) (λd r=>T _ _ r) (λd xs r=>T _ _ r) λd ob v r=>T _ _ r;simp_all<;>lia
end
section
variable {P:Program}{w:World}{K:Frag}{mg:SV}{base:Heap}
theorem cB.fnL {x:Str}{st:Stmt}{N ps:LS}{k:Nat}{g:FS}{h:Heap}(F:cB K x st)(X:K.In h)(G:h.Ns mainGlobals mg)(S:FnScope N ps (aO st))
  (O:∀(kV doc pm:Value)(an:Option Addr)(dv ct:Value)(us:LU),us.length=ps.length->bindArgs (fnOf x x (dZ st) (cc st) (aO st) .none kV doc pm an dv ct) ⟨us,[]⟩=pure (ps.zip us))
  (hb:∀(f:Addr)(dv:Value)(A:Around)(outer:List PySem.Env)(s:Shared)(H:Hp)(E:XK),(∀c P,tabIn K x=some (c,P)->dv=.ref c)->eU k (A.deeper (envOfC x (aO st) s.heap.objs.size f dv))->wm (ph zi P w K mg base N x (aO st) f dv A outer s H E).nox (cc st) g):
  Fn P w K mg base (k+1) x (aC g ps.length (N.length - ps.length)):=by
 obtain⟨f,fd,T,a⟩:=F;have o:=T;obtain⟨oc,od,kV,doc,pm,an,dv,ct,mv,rfl,n,U⟩:=o.ex;have hc:∀c P,tabIn K x=some (c,P)->dv=.ref c:=λc P e=>by
  unfold tabIn at e;simp only[a,n]at e;split at e
  .split at e
   .split at e
    .cases e;rfl
    .cases e
   .cases e
  .cases e
 have len:∀vs H Q E,Hg K (aC g ps.length (N.length - ps.length)) vs H Q E->vs.length=ps.length:=λvs H Q E h=>by
  obtain⟨B,ds,d,b,j,i,e,q⟩:=h;unfold aC at e;split at e
  .rename_i hl;rw[i.length];exact hl
  simp_all
 refine⟨f,_,ps,G9 n U S len λA outer s H vs Q E p h=>⟨_,uR.nox (hb f dv A outer s H E hc p),?_⟩,mg_of X G a,T.kp,T.binds O⟩;have M:=len vs H Q E h;obtain⟨B,ds,d,b,j,i,e,q⟩:=h;unfold aC at e;rw[if_pos (by rw[<-i.length];exact M)]at e;have l:=rC (N:=N) j.1 j.2 i;rw[M]at l;split at e
 .rename_i d' b' m;cases e
  exact⟨B,H,_,_,⟨B,l⟩,m,λv H' N' r t u=>q v H' N' r t u⟩
 .rename_i ρ' m;cases e
  exact⟨B,H,_,_,⟨B,l⟩,m,λy H' ⟨N',s'⟩=>q .non H' N' s'.ext .non N9⟩
 simp_all
end
inductive mN (X:Cx)(N':List Str)(scope:Scope)(cl:List (Str×Addr)):Nat->List Nat->Prop where
 |nil {j:Nat}(h:N'.length=j):mN X N' scope cl j []
 |cons {j i:Nat}{r:List Nat}{x:Str}(h1:N'[j]? = some x) (h2:X.N[i]? = some x) (h3:X.env.kindOf x=some .cell\/X.env.kindOf x=some .free)
   (h4:scope.names.lookup x=some .free) (h5:cl.lookup x=X.env.cells.lookup x) (t:mN X N' scope cl (j+1) r):mN X N' scope cl j (i::r)
theorem mN.len:∀ {j:Nat}{cap:LN},mN X N' scope cl j cap->N'.length=j+cap.length
 |_,_,.nil h=>by rw[h];rfl
 |j,i::r,.cons _ _ _ _ _ t=>by rw[t.len,vE];lia
theorem mN.get:∀ {j:Nat}{cap:LN}{k i:Nat},mN X N' scope cl j cap->cap[k]? = some i->∃x,N'[j+k]? = some x/\X.N[i]? = some x/\(X.env.kindOf x=some .cell\/X.env.kindOf x=some .free) /\
  scope.names.lookup x=some .free/\cl.lookup x=X.env.cells.lookup x
 |_,_,_,_,.nil _,e=>by simp at e
 |j,_,0,_,.cons h1 h2 h3 h4 h5 _,e=>by simp at e;subst e;exact⟨_,h1,h2,h3,h4,h5⟩
 |j,_,k+1,i,.cons _ _ _ _ _ t,e=>by
  obtain⟨x,q,r⟩:=t.get   (by simpa using e);exact⟨x,M9,r⟩
noncomputable abbrev Av (X:Cx)(N':LS)(scope:Scope)(cl:List (Str×Addr))(q:Str)(A:Around)(f c:Addr)(s:Shared)(H:Hp):Cx :=
 { X with A:=A.deeper (envX q scope s.heap.objs.size f (.ref c) cl),N:=N',s₀:=s,H₀:=H,env:=envX q scope s.heap.objs.size f (.ref c) cl,outer:=X.stack,stack:=envX q scope s.heap.objs.size f (.ref c) cl::X.stack,ex:=[],fn:=λ_=>false,calm:=true,pn:=[],xe:=λ_ _=>False }
structure LamSc (X:Cx)(scope:Scope)(cl:List (Str×Addr))(y:Str):Prop where
 clos:closureFor scope X.env=pure cl
 nocell:∀z∈scope.names,z.2≠.cell
 kind:scope.kind=.function
 co:scope.isCoroutine=false
 gen:scope.isGenerator=false
 par:scope.names.lookup y=some .local
 sub:∀x c,cl.lookup x=some c->X.env.cells.lookup x=some c
 has:∀x,scope.names.lookup x=some .free->∃c,cl.lookup x=some c
theorem Aw (h1:∀z∈scope.names,z.2≠.cell)(h2:scope.kind=.function)(h3:scope.isCoroutine=false)(G:scope.isGenerator=false)(hp:scope.names.lookup y=some .local)
  (M:(scope.names.all λz=>!(z.2 == NameKind.free) || (X.env.cells.lookup z.1).isSome)=true):LamSc X scope (g9 scope.names X.env.cells []) y:=by
 have h4:∀z∈scope.names,z.2=.free->(X.env.cells.lookup z.1).isSome=true:=λz hz e=>by
  grind
 exact⟨wn _ [] h4,h1,h2,h3,G,hp,λx c e=>nN _ [] (λy d q=>by cases q) e,λx h=>by
  have:=nO  _ [] (iK h) (h4 _ (iK h) rfl);exact uU this⟩
section
variable {X:Cx}{ag:AO}{σ:St}{H:Hp}{s:Shared}{A:Around}{N':LS}{scope:Scope}{cl:List (Str×Addr)}{q y:Str}{cap:LN}
theorem Ll (S:LamSc X scope cl y)(t:N'[0]? = some y)(j:mN X N' scope cl 1 cap)(I:Inv X ag σ H s)(B:A.frames=some X.stack)(hh:A.handled=none)(r:aX v u)
  (U:h₁.Ns s.heap.objs.size (λx=>[(y,u)].reverse.lookup x)) (hk:∀b o,s.heap.get? b=some o->h₁.get? b=some o):
  Inv (Av X N' scope cl q A f c s H) [] (some v::zy 0 cap σ) H { s with heap:=h₁,toks:=tk }:=by
 have G:∀b:Addr,b∉(Av X N' scope cl q A f c s H).ex:=λb z=>absurd (show b∈([]:List Addr)from z) N9;refine⟨⟨I.ok.mod,S.kind,rfl,rfl,vT _,λx z d a e2=>I.ok.inj x z d (S.sub _ _ a) (S.sub _ _ e2),λx hx=>?_,(λx d e=>by cases e),λ_=>hh,Around.frames_deeper B,.inr ⟨rfl,rfl⟩,λb z=>absurd z (G b),I.bs,vR I.ok.bsz I.sz,λb _ _=>G b,λb z=>absurd z (G b),I.stack,I.stkFree⟩,
  rfl,I.bare,Un.kept hk,⟨_,U,λi x l a e2 F=>?_⟩,λx d e=>?_,I.hok.fresh (vT _),λx d e=>I.freeC x d (S.sub _ _ e),λp hp=>absurd (show p∈([]:AO)from hp) N9,I.hok.kept hk,?_⟩
 .have hx' :=hx;rcases hx' with hx'|hx'
  .exact absurd rfl (S.nocell _ (iK hx'))
  .exact S.has x hx'
 .cases i with
  |zero=>
   have O :=a;rw[t]at O;cases O;have M :=by simpa using e2
   cases M
   exact⟨u,r,.inl ⟨S.par,N9⟩⟩
  |succ k=>
   have M :=by simpa using e2
   obtain⟨k',g,J,g1,T⟩:=ye M;have:k=k':=M9
   subst this;obtain⟨n,n1,n2,n3,n4,n5⟩:=j.get g1;have:n=x:=by
    lia
   subst this;have C:σ[g]? = some (some l):=by
    cases z:σ[g]? with
    |none=>rw[z]at T;cases T
    |some w=>rw[z]at T;cases w with
     |none=>cases T
     |some w=>cases T;rfl
   obtain⟨m,_,hl⟩:=I.loc;obtain⟨u',ru,D⟩:=hl g n l n2 C (by
    rcases n3 with n3|n3
    .exact .inr (.inl n3)
    .exact .inr (.inr n3))
   refine⟨u',ru,.inr ⟨.inr n4,?_⟩⟩;rcases D with⟨l1,_⟩|⟨_,d,l2,E⟩
   .rcases n3 with n3|n3<;>(rw[l1]at n3;cases n3)
   .obtain⟨ob,h,hd⟩:=E;exact⟨d,by rw[n5];exact l2,ob,hk _ _ h,hd⟩
 .obtain⟨w,ob,h,hd⟩:=I.cell x d (S.sub _ _ e);exact⟨w,ob,hk _ _ h,hd⟩
 .have:=j.len;unfold zy;rw[this];simp;lia
theorem Lm (S:LamSc X scope cl y)(h:N'[0]? = some y)(k:mN X N' scope cl 1 cap)(I:Inv X ag σ H s)
  (l:A.frames=some X.stack) (hh:A.handled=none) (G:A.depth<recursionLimit) (m:HN H f q params body scope cl)
  (M:∀pm c T u,bindArgs (kla_fn "<lambda>" q params body scope cl pm (.ref c) T) ⟨[u],[]⟩=pure [(y,u)])
  (hb:∀(f c:Addr)(s:Shared)(H:Hp),JE (Av X N' scope cl q A f c s H) body fb)
  (rep:gy X.K B σ ρ) (n:bc B H) (r:aX v u) (i:Is X.K B v d) (e:fb (some (d,false)::cG 0 cap ρ)=some (d',b')) (p:Fin X.K B H d' b' Q):
  wpAny (model X.prog X.w) A (call (.ref f) [u]) (EP X ag σ Q) (λ_ _=>False) s:=by
 obtain⟨pm,c,T,V,oc,u',ws,t,hf,hc,hd,hv⟩:=m;have x:=(I.hok f _ hf).1;have C:=(I.hok c _ hc).1;refine wpAny_call (codeAny_mono (R:=λr s'=>CR zi X.stack X.prog X.w H s Q (λ_ _ _=>False) r s') ?_ λr s' hq=>?_)
 .refine kla_callFunE G x rfl S.co S.gen rfl ⟨c,oc,ws,t,rfl,C,hd,hv⟩ ?_;rw[M];refine wY (wpAny_newFunctionEnv S.nocell (λz hz=>by rw[uT hz];exact S.par) (λg D U=>⟨I.nolimit.fresh _ U,?_⟩) S.kind);have O :=λb o e=>U.extBut b o (vS (vX e)) (vZ _ e);have J:=Ll (f:=f) (c:=c) (q:=q) (tk:=s.toks+1) S h k I l hh r D O;refine kla_codeExpr (wpAny_mono (hb f c s H [] _ _ H Q J ⟨B,_,d',b',n,⟨rep.tb,λj E F z=>?_⟩,e,p⟩) (λw s' hw=>?_) λ_ _ z=>z.elim)
  .cases j with
   |zero=>
    simp_all
   |succ j=>
    obtain⟨w,h1,h2⟩:=(rep.caps  ).at' j E F (by simpa using z);simp_all
  .obtain⟨L,H',a,N,P⟩:=hw;exact⟨L,H',a.os,a.bare,a.base,a.hok,N,P⟩
 .cases r with
  |error e=>exact False.elim hq
  |ok fl=>
   cases fl with
   |ret w=>exact I.after hq
   |next=>exact False.elim hq
   |brk=>exact False.elim hq
   |cont=>exact False.elim hq
end
end DL
namespace DL
open PySem PySem.Spec PySem.W PyProof.Rows L2
section
variable {X:Cx}{ag:AO}{σ:St}{H:Hp}{s:Shared}{h':Heap}{t':Nat}
theorem p8 (I:Inv X ((p,o)::ag) σ H s):∀x c,X.env.cells.lookup x=some c->c≠p:=λx c e z=>by
 have G:=I.pin _ (mY _ mX);obtain⟨v,ob,M,hd⟩:=I.cell x c e;simp_all
theorem jJ (I:Inv X (p::ag) σ H s):Inv X ag σ H s:=I.pins_of λq hq=>I.pin q (mY _ (mZ _ hq))
theorem iP (I:Inv X ((p,o)::ag) σ H s)(h0:X.s₀.heap.objs.size<=p)(hp:∀q∈X.pn++ag,q.1≠p)(k:∀b u,b≠p->s.heap.get? b=some u->h'.get? b=some u)(M:h'.get? p=some o')(O:∀v,o'.data≠.cell v):
  Inv X ((p,o')::ag) σ H { s with heap:=h',toks:=t' }:=by
 have G:=I.pin _ (mY _ mX);have J:=(jJ I).turned (t':=t') k G.2.1 G.2.2.1 (.inr h0) (p8 I) hp;refine J.pins_of λq hq=>?_;rcases vP hq with rfl|hq
 .exact⟨M,G.2.1,G.2.2.1,G.2.2.2.1,O⟩
 .exact J.pin q (mY _ hq)
theorem ml (I:Inv X ag σ H s)(k:∀b u,s.heap.get? b=some u->h'.get? b=some u)(hs:s.heap.objs.size<=p)(G:h'.get? p=some o)(M:∀v,o.data≠.cell v):Inv X ((p,o)::ag) σ H { s with heap:=h',toks:=t' }:=by
 have J:=I.kept (t':=t') k;refine J.pins_of λq hq=>?_;rcases vP hq with rfl|hq
 .exact⟨G,I.hok.fresh hs,ne_of_gt (vQ I.lt hs),I.nofs hs,M⟩
 .exact J.pin q (mY _ hq)
theorem Ln (I:Inv X ((p,o)::ag) σ H s)(h0:X.s₀.heap.objs.size<=p)(hp:∀q∈X.pn++ag,q.1≠p)(k:∀b u,b≠p->s.heap.get? b=some u->h'.get? b=some u)(U:∃u,h'.get? p=some u)
  (new:bP X.prog X.w (upd H p ob) h' p ob):Inv X ag σ (upd H p ob) { s with heap:=h',toks:=t' }:=by
 have G:=I.pin (p,o) (mY _ mX);have hn:=G.2.1;have cs:=p8 I;refine(jJ I).step (g':=s.gens) (d':=s.drawn) (ch:=[p]) (λb hb=>?_) (λb u _ _ hc e _=>k b u (λz=>hc (by simp[z])) e) (λb u _ _ hc e _=>⟨u.slots,k b u (λz=>hc (by simp[z])) e⟩) (λb u hc _ n=>by simp_all[aK])
  (λb u hc e=>⟨u,k b u (λz=>hc (by simp[z])) e⟩) (λb xs e=>by rw[aK (bi e hn)];exact e) (λb u w e=>by rw[aK (bi e hn)];exact e) (λb q e=>by rw[aK (bi e hn)];exact e) (λm hm=>?_) (λb u e=>?_) I.bare
 .have z:b=p:=by simpa using hb
  subst z;exact⟨.inr h0,G.2.2.1,cs,hp⟩
 .obtain⟨M,es,O,T,r⟩:=hm;exact⟨M,es,O,k _ M (λz=>G.2.2.1 z.symm) T,r⟩
 .by_cases z:b=p
  .simp_all[a8]
  .rw[aK z]at e;refine(I.hok b u e).stay (λc v hc q=>k c v ?_ q) (λc q=>?_) (λc xs q=>?_) λc w xs q=>?_
   .lia
   .rw[aK (bi q hn)];exact q
   .rw[aK (bi q hn)];exact q
   .rw[aK (bi q hn)];exact q
end
def DC (X:Cx)(A:Around)(σ:St)(G:Value)(B M:Hp)(O:D->Option D):Prop :=
 ∀(ag:AO)(s:Shared)(H N:Hp)(v:V)(u:Value)(d d':D),Inv X ag σ H s->bc M H->bc B N->bc N H->Is X.K N v d->aX v u->O d=some d' ->
  wpAny (model X.prog X.w) A (call G [u]) (EP X ag σ λT H'=>∃N',Ext N N' H H'/\Is X.K N' T d') (λ_ _=>False) s
def JK (X:Cx)(A:Around)(e:Expr)(O:Env->D->Option D):Prop:=∀(ag:AO)(s:Shared)(σ:St)(H B:Hp)(ρ:Env)(Q:QV)(E:QV),Inv X ag σ H s->bc B H->gy X.K B σ ρ ->
 (∀M G s1,Inv X ag σ G s1->bc H G->DC X A σ (.ref M) B G (O ρ)->Q (.ref M) s1)->wq X (eval e X.env) Q E s
section
variable {X:Cx}{A:Around}
@[simp] def qM (cap:LN)(G:FE):Env->D->Option D:=λρ d=>(G (some (d,false)::cG 0 cap ρ)).map (·.1)
theorem sf (hx:x∈nM)(L:Au X.K x)(hc:∀c P,tabIn X.K x=some (c,P)->X.env.code=.ref c)(hq:X.env.qual ++ "<lambda>" = vh x)
  (M:defaultsOf params X.env=([],[])) (S:LamSc X scope (g9 scope.names X.env.cells []) y) (b:N'[0]? = some y) (g:mN X N' scope (g9 scope.names X.env.cells []) 1 cap) (h:A.frames=X.A.frames) (O:eU (k+1) A)
  (G:∀pm c T u,bindArgs (kla_fn "<lambda>" (vh x) params body scope (g9 scope.names X.env.cells []) pm (.ref c) T) ⟨[u],[]⟩=pure [(y,u)])
  (hb:∀(f c:Addr)(s:Shared)(H:Hp),eU k (Av X N' scope (g9 scope.names X.env.cells []) (vh x) A f c s H).A->JE (Av X N' scope (g9 scope.names X.env.cells []) (vh x) A f c s H) body fb):JK X A (.Lambda params body scope pos) (qM cap fb):=by
 intro ag s σ H B ρ Q E I i rep j;refine HP hx L hc hq M S.clos I (rep.tb.mono i) λf l s1 m n o=>j f l s1 m n ?_;intro U s' H' N v u d d' a m1 m2 p iv r e;obtain⟨⟨d2,b2⟩,q,e2⟩:=oY e;cases e2
 exact Lm S b g a (h.trans a.ok.frames) O.hd O.depth (o.mono m1) G (λf c s H=>hb f c s H (O.deeper _)) (rep.mono m2) p r iv q λw H2 N2 t i2 _=>⟨N2,t,i2⟩
@[simp] noncomputable def y7 (g:LD->OB):Env->D->Option D:=λ_ d=>(g [d]).map (·.1)
theorem DD (F:Fn X.prog X.w X.K X.mg X.base k x g)(b:eU k A)(c:A.frames=X.A.frames)(f:Gl X x:=by rfl)(M:(x == ("__debug__" : Str))=false:=by decide):JK X A (.Name x p) (y7 g):=by
 intro ag s σ H B ρ Q E I m rep h;obtain⟨ad,fd,ps,U,hm,hk,hb⟩:=F.ex;refine xO I f hm ?_ M;refine h ad H s I (.refl H) ?_;intro O s' H' N v u d d' T m1 m2 i iv r e;obtain⟨⟨d2,b2⟩,j,e2⟩:=oY e;cases e2
 have sp:Hg _ g _ H' (λa H2=>∃N',Ext N N' H' H2/\Is _ N' a d2) (λ_ _ _=>False):=⟨N,[d],d2,b2,⟨i,rep.tb.mono m2⟩,.cons iv .nil,j,λa H2 N2 l i2 _=>⟨N2,l,i2⟩⟩;have hl:[u].length=ps.length:=by have:=U.len _ _ _ _ sp;simp_all
 have G:=T.env0;have bb:=hb s' [u] T.kIn (by simpa using hl);refine wpAny_call (codeAny_mono (U.run A _ s' H' _ _ _ _ _ b ⟨c.trans G.frames,G.mod,G.bs,G.bsz,G.funs,G.frf,G.hok,G.bare⟩ bb (.cons r .nil) sp) λr s' hq=>?_);cases r with
 |error e=>exact False.elim hq
 |ok fl=>
  cases fl with
  |ret w=>exact T.after hq
  |next=>exact False.elim hq
  |brk=>exact False.elim hq
  |cont=>exact False.elim hq
end
noncomputable def kn (f:D->Option D):LD->Option LD
 |[]=>some []
 |d::ds=>(f d).bind λx=>(kn f ds).map (x :: ·)
theorem lx:∀ {ds ks:LD},kn f ds=some ks->ks.length=ds.length
 |[],_,h=>by simp_all[kn]
 |d::ds,_,h=>by
  obtain⟨a,h1,h⟩:=oX h;obtain⟨r,h2,h⟩:=oY h;subst h;simp[lx h2]
theorem si:∀ {ds ks:LD},kn f ds=some ks->∀ {i:Nat}{d:D},ds[i]? = some d->∃k,ks[i]? = some k/\f d=some k
 |[],_,h,i,d,e=>by simp at e
 |d::ds,_,h,0,e,q=>by
  obtain⟨a,h1,h⟩:=oX h;obtain⟨r,h2,h⟩:=oY h;subst h;simp at q;subst q;exact⟨a,N9,h1⟩
 |d::ds,_,h,i+1,e,q=>by
  obtain⟨a,h1,h⟩:=oX h;obtain⟨r,h2,h⟩:=oY h;subst h;obtain⟨k,G,M⟩:=si h2   (by simpa using q);simp_all
structure KK (X:Cx)(A:Around)(kd:List D->Option (List (List At)))(ok:List (List At)->Bool):Prop where
 len:∀ {ds:List D}{ks:List (List At)},kd ds=some ks->ks.length=ds.length
 ask:∀ {ag:List (Addr×Obj)}{σ:St}{H:Hp}{s:Shared}(_:Inv X ag σ H s) {ys:List V}{ds:List D}{ks:List (List At)}{its:List Value},bg ys its->IsL X.K H ys ds->kd ds=some ks->ok ks=true->dj ks=true ->
  (0<ks.length->∀ {E:Value->Shared->Prop}{Q:SortKind->Shared->Prop},Q (tuples' true) s->wpAny (model X.prog X.w) A (keyKind' its.toArray) Q E s) /\
  ∀(i j:Nat)(C:Bool->Shared->Prop)(s1:Shared),i<ks.length->j<ks.length->s1=s->(∀s',s'=s->C (rX (B8 ks) i j) s')->kas_ask X.prog X.w A (tuples' true) its i j C s1
theorem Cn:KK X A ee c9:=⟨gE,λI _ _ _ _ r i e hf hc=>have hp:=oh I r i e;⟨λhn _ _ q=>An hp hf hn q,D8 hc hp⟩⟩
section
variable {X:Cx}{ag:AO}{σ:St}{s:Shared}
theorem wJ (r:aX x u):∀ {vs:LV}{us:LU},bg vs us->bg (vs++[x]) (us++[u])
 |_,_,.nil=>.cons r .nil
 |_,_,.cons h t=>.cons h (wJ r t)
theorem de:∀v,(Obj.mk c od (.seq its n) sl).data≠.cell v:=λv z=>by cases z
theorem sj 
  (I:Inv X ((a,seqObj "list" its.toArray n)::ag) σ H s) (h0:X.s₀.heap.objs.size<=a) (hp:∀q∈X.pn++ag,q.1≠a) (Gx:DC X A σ qv B H kf) (l:bg vs its) (iv:IsL X.K B vs ds) (sB:bc B H)
  (M:KK X A kd ok) (y:kn kf ds=some kQ) (ek:kd kQ=some ks) (hc:dj ks=true) (hf:ok ks=true) (M4:its.length<64)
  (h:∀(p:Array Nat)(s':Shared)(H' N:Hp),oZ its.length p->Up (B8 ks) p its.length->Inv X ag σ (upd H' a (.lst (p.toList.map λi=>vs.getD i .non))) s'->Ext B N H H'->H' a=none->P (.done (.ret .none)) s'):
  wpAny (model X.prog X.w) A (ksk_tree a qv false) P E s:=by
 have g:=I.pin (a,seqObj "list" its.toArray n) (mY _ mX)
 have Nk:vs.length=its.length:=l.length
 have No:ds.length=vs.length:=iv.length.symm
 have Xb:kQ.length=ds.length:=lx y
 have V0:ks.length=kQ.length:=M.len ek
 have hz:its.length<=sizeLine:=by rw[sizeLine_eq];lia
 have hna:H a=none:=g.2.1
 obtain⟨U,D⟩:∃U,(s.heap.update a (Obj.mapSeq λ_=>(#[]:AV))).get? a=some (seqObj "list" #[] U):=⟨_,get?_update_seq g.1 λ_=>#[]⟩
 have u1:=vW s.heap a (Obj.mapSeq λ_=>(#[]:AV))
 have I1 :=iP (t':=s.toks) I h0 hp (λb u n q=>(u1.2 b n).trans q) D de
 let h2:Heap:=(s.heap.update a (Obj.mapSeq λ_=>(#[]:AV))).push (seqObj "tuple" its.toArray 0)
 have m:Inv X ((a,seqObj "list" #[] U)::ag) σ H { s with heap:=h2 }:=I1.kept (t':=s.toks) λb u q=>vZ _ q
 let kS:Addr:=h2.objs.size
 have I3:Inv X ((kS,seqObj "list" #[] 0)::(a,seqObj "list" #[] U)::ag) σ H { s with heap:=h2.push (seqObj "list" #[] 0) }:=ml (s:={ s with heap:=h2 }) (t':=s.toks) m (λb u q=>vZ _ q) (vT _) (vY _ rfl) de
 have k0:X.s₀.heap.objs.size<=kS:=m.sz
 have kp:∀q∈X.pn++((a,seqObj "list" #[] U)::ag),q.1≠kS:=λq hq=>vS (vX (m.pin q hq).1)
 unfold ksk_tree
 refine wX (listItems_at g.1 rfl ?_)
 refine wX (listUpdate_at g.1 rfl ?_ (by simpa using hz) (uN _))
 refine wX (seqEpoch_at D rfl ?_)
 refine wX (wpAny_newTuple ?_ (by simp_all))
 refine wX (wpAny_newList ?_ (uN _))
 refine wpAny_holding ?_
 show wpAny (model X.prog X.w) A (ksk_rest a qv false its.toArray U (.ref kS)) P E { s with heap:=h2.push (seqObj "list" #[] 0) }
 unfold ksk_rest
 refine wX (wpAny_rule ?_)
 rw[List.forIn_toArray]
 refine wX (ksk_fold (λi s'=>∃(H' N:Hp)(kA:AV)(e:Nat)(aR:LV),Inv X ((kS,seqObj "list" kA e)::(a,seqObj "list" #[] U)::ag) σ H' s'/\Ext B N H H'/\bg aR kA.toList/\IsL X.K N aR (kQ.take i)) its 0 _
  ⟨H,B,#[],0,[],I3,.refl sB,.nil,by simpa using IsL.nil⟩ ?step ?done)
 case step=>
  rintro j u s' hu ⟨H',N,kA,e,aR,J,c,rk,ik⟩
  simp only[Nat.zero_add]at ik |-
  have hj:j<its.length:=(vV hu).1
  obtain⟨d,hd⟩:∃d,ds[j]? = some d:=⟨_,vU M9⟩
  obtain⟨v,hv,SS⟩:=iv.get hd
  obtain⟨kd,ZK,V1⟩:=si y hd
  obtain⟨u',F,ru⟩:=l.get hv
  rw[hu]at F;cases F
  have kl:kA.size=j:=by
   have L:=rk.length
   have R:=ik.length
   rw[length_take]at R
   rw[vG]at L
   exact L.symm.trans (R.trans (Nat.min_eq_left M9))
  refine wX (wpAny_attempt (wpAny_mono (Gx _ s' H' N v u d kd J c.hh c.bn c.nh (SS.mono c.bn) ru V1) (λw o hw=>?_) λ_ _ hF=>hF.elim))
  obtain⟨v',ZL,S,rv',N',V,i2⟩:=hw
  have f:=S.pin (kS,seqObj "list" kA e) (mY _ mX)
  obtain⟨c2,Nq⟩:∃c2,(o.heap.update kS (Obj.mapSeq (·.push w))).get? kS=some (seqObj "list" (kA.push w) c2):=⟨_,get?_update_seq f.1 (·.push w)⟩
  have u2:=vW o.heap kS (Obj.mapSeq (·.push w))
  refine wX (listUpdate_at f.1 rfl ?_ (by rw[sizeLine_eq];lia) (vR (le_of_eq (Array.size_push ..)) (by rw[sizeLine_eq];lia)))
  refine wY ⟨rfl,ZL,N',kA.push w,c2,aR++[v'],iP (t':=o.toks) S k0 kp (λb q n z=>(u2.2 b n).trans z) Nq de,c.trans V,?_,?_⟩
  .simp_all[wJ]
  .rw[take_add_one,ZK];exact(ik.mono V.bn).append (.cons i2 .nil)
 case done=>
  rintro s' ⟨H',N,kA,e,aR,J,c,rk,ik⟩
  have W:IsL X.K N aR kQ:=by
   grind
  have f:=J.pin (kS,seqObj "list" kA e) (mY _ mX)
  have ZM:=J.pin (a,seqObj "list" #[] U) (mY _ (mZ _ mX))
  have UT:H' a=none:=ZM.2.1
  have Y:kA.toList.length=its.length:=by rw[<-rk.length,W.length];lia
  have Z:kA.size=its.length:=by simp_all
  refine wX (listItems_at f.1 rfl ?_)
  have Xe:=M.ask J rk (W.mono c.nh) ek hf hc
  -- the end of the sort,for a permutation p
  have SW:∀(st:SortSt)(p:Array Nat),arrOf st=p.map (kas_item (kA.toList.toArray.zip its.toArray))->failedOf st=none->oZ its.length p->Up (B8 ks) p its.length ->
    wpAny (model X.prog X.w) A (ksk_tail a false U (.ref kS) st) P E s':=λst p ea ef k up=>by
   have eo:(arrOf st).map (·.2)=List.toArray (p.toList.map λi=>its.getD i Value.none):=kat_snds Y ea
   have Gq:∀i∈p.toList,i<vs.length:=λi hi=>by
    have:=mem_range.mp (k.perm.mem_iff.mp hi)
    lia
   obtain⟨c3,ZN⟩:∃c3,(s'.heap.update kS (Obj.mapSeq λ_=>(#[]:AV))).get? kS=some (seqObj "list" #[] c3):=⟨_,get?_update_seq f.1 λ_=>#[]⟩
   have u3:=vW s'.heap kS (Obj.mapSeq λ_=>(#[]:AV))
   have J3:=jJ (iP (t':=s'.toks) J k0 kp (λb q n z=>(u3.2 b n).trans z) ZN de)
   have t:=J3.pin (a,seqObj "list" #[] U) (mY _ mX)
   obtain⟨x,Xf⟩:∃x,((s'.heap.update kS (Obj.mapSeq λ_=>(#[]:AV))).update a (Obj.mapSeq λ_=>(arrOf st).map (·.2))).get? a=some (seqObj "list" ((arrOf st).map (·.2)) x):=⟨_,get?_update_seq t.1 λ_=>(arrOf st).map (·.2)⟩
   have u4:=vW (s'.heap.update kS (Obj.mapSeq λ_=>(#[]:AV))) a (Obj.mapSeq λ_=>(arrOf st).map (·.2))
   have so:((arrOf st).map (·.2)).size=its.length:=by rw[eo];simp only[vH,vI,vG,k.size]
   unfold ksk_tail
   try dsimp only
   refine wX (listUpdate_at f.1 rfl ?_ (by rw[Z,sizeLine_eq];lia) (uN _))
   refine wX (wpAny_letGo ?_)
   refine wX (seqEpoch_at t.1 rfl ?_)
   refine wX (listUpdate_at t.1 rfl ?_ (uN _) M9)
   rw[ef]
   simp only[bne_self_eq_false,uV,if_false]
   refine wY (h p _ H' N k up (Ln (s:={ s' with heap:=s'.heap.update kS (Obj.mapSeq λ_=>(#[]:AV)) }) (t':=s'.toks) J3 h0 hp (λb q n z=>(u4.2 b n).trans z) ⟨_,Xf⟩ ?_) c UT)
   refine⟨by rw[vI,vG,k.size];exact hz,p.toList.map λi=>its.getD i Value.none,x,p7 l p.toList Gq,?_⟩
   rw[<-eo];exact Xf
  unfold ksk_end
  try dsimp only
  simp only[uV,if_false]
  have ZO:kA=kA.toList.toArray:=N9
  by_cases O:its.toArray.size<2
  .rw[if_pos O,if_pos O]
   refine wX (wY ?_)
   rw[StateT.run_pure]
   refine wX (wY ?_)
   have Vt:its.length<2:=by simpa using O
   refine SW _ (List.toArray (List.range its.length)) ?_ rfl ⟨N9,N9⟩ ?_
   .show kA.zip its.toArray=_
    have:=kas_range (kA.toList.toArray.zip its.toArray)
    rw[show(kA.toList.toArray.zip its.toArray).size=its.length by simp[Z]]at this
    rw[this]
   .intro i j hij hj
    have:i=j:=M9
    subst this;exact Int.le_refl _
  .rw[if_neg O,if_neg O]
   have V3:2<=its.length:=by simp at O;lia
   rw[ZO]
   refine wX (Xe.1 M9 ?_)
   obtain⟨p,r1,r2,r3⟩:=Al (n:=its.length) (rk:=B8 ks) M9
   refine wX (wpAny_mono (kat_run (E:=E) (ks:=kA.toList) (vs:=its) (κ:=tuples' true) (s:=s') (Q:=λT s2=>s2=s'/\arrOf T=p.map (kas_item (kA.toList.toArray.zip its.toArray))/\failedOf T=none)
    (G:=λp' s2=>p'=p/\s2=s') Y V3 M4 (λp' T s2 _ e2 e3 e4=>by
     lia) (Run.wp (λs2=>s2=s') (λi j C s2 hi hj e hC=>Xe.2 i j C s2 M9 M9 e hC) r1 rfl λs2 e=>⟨rfl,e⟩)) (λr s2 hr=>?_) λ_ _ z=>z)
   obtain⟨⟨⟩,T⟩:=r
   obtain⟨rfl,e2,e3⟩:=hr
   exact SW T p e2 e3 r2 r3
end
theorem sk {α G:Type}{f:α->G}:∀ {l:List α},(l.map f).Nodup->l.Nodup
 |[],_=>nodup_nil
 |a::l,h=>by
  rw[uY,nodup_cons]at h;exact nodup_cons.mpr ⟨λz=>h.1 (uS ⟨a,z,rfl⟩),sk h.2⟩
def gZ (ks:List (List At))(ds:LD):LD:=(dR (λp:List At×D=>cC p.1) (ks.zip ds)).map (·.2)
theorem HQ {α O:Type}(d:α)(e:O):∀ {M:List α}{G:List O},M.length=G.length->(List.range G.length).map (λi=>(M.getD i d,G.getD i e))=M.zip G:=λ{M G} h=>by
 apply ext_getElem?;intro i;by_cases hi:i<G.length
 .simp_all
 .simp[hi,h]
theorem Lo {α O:Type}{G:List α}{M:List O}(nd:G.Nodup){a:α}{b c:O}(h1:(a,b)∈G.zip M)(h2:(a,c)∈G.zip M):b=c:=by
 obtain⟨i,hi⟩:=mem_iff_getElem?.mp h1;obtain⟨j,hj⟩:=mem_iff_getElem?.mp h2;obtain⟨i1,i2⟩:=getElem?_zip_eq_some.mp hi;obtain⟨U,T⟩:=getElem?_zip_eq_some.mp hj;obtain⟨e,ei⟩:=vV i1;obtain⟨f,d⟩:=vV U;have:i=j:=(List.getElem_inj nd).mp (ei.trans d.symm);subst this;rw[i2]at T;exact vK T
theorem sn {ds:LD}{ks:List (List At)}{p:Array Nat}(hl:ks.length=ds.length)(hc:dj ks=true)(nd:ks.Nodup)(G:oZ ds.length p)(O:Up (B8 ks) p ds.length):p.toList.map (λi=>ds.getD i .non)=gZ ks ds:=by
 unfold gZ;have e:p.toList.map (λi=>(ks.getD i [],ds.getD i .non))=dR (λp:List At×D=>cC p.1) (ks.zip ds):=by
  apply jH
  .intro x hx y hy e;have mx:=(of_mem_zip hx).1;have T:=(of_mem_zip hy).1;have:=mi hc mx T e;obtain⟨k1,d1⟩:=x;obtain⟨k2,d2⟩:=y;have z:k1=k2:=this;subst z;rw[Lo nd hx hy]
  .have:=G.perm.map (λi=>(ks.getD i [],ds.getD i D.non));rw[HQ [] D.non hl]at this;exact this
  .rw[List.pairwise_iff_getElem];intro i j hi hj M;have hsz:=G.size;have U:i<p.size:=by simpa using hi
   have f:j<p.size:=by simpa using hj
   have:=O i j (le_of_lt M) M9;unfold c8 B8 at this;have a:p.getD i 0=p[i]:=by simp_all
   have b:p.getD j 0=p[j]:=by simp_all
   have g:=G.lt (k:=j) M9;have c:ks.getD (p.getD j 0) []∈ks:=by
    simp_all
   have d:¬cC (ks.getD (p.getD j 0) [])<cC (ks.getD (p.getD i 0) []):=λz=>by
    have:=y0 (cs:=ks.map cC) (uS ⟨_,c,rfl⟩) z;lia
   simp only[List.getElem_map,Array.getElem_toList];unfold HG;rw[<-a,<-b];exact d
 rw[<-e,uP];rfl
@[simp] def y8 (kd:LD->Option (List (List At)))(ok:List (List At)->Bool)(f:FE)(M:Env->D->Option D):FE:=λρ=>(f ρ).bind λx=>match x.1 with
 |.lst ds=>(kn (M ρ) ds).bind λG=>(kd G).bind λks=>if ks.length<64/\dj ks=true/\ok ks=true/\(ks.map cC).Nodup then some (.lst (gZ ks ds),true)else none
 |_=>none
@[simp] abbrev sq:FE->(Env->D->Option D)->FE:=y8 ee c9
section
variable {X:Cx}{e ke:Expr}{p pos kp:Pos}
theorem HR {kd:LD->Option (List (List At))}{ok:List (List At)->Bool}(M:KK X X.A.in1.in1 kd ok){f:FE}{t:Env->D->Option D}(hm:X.mg "sorted" = none)(he:JE X e f)(hk:JK X X.A.in1.in1 ke t)(P:Gl X "sorted":=by rfl)
  (R:starEach [e] X.env=[(false,eval e X.env)]:=by rfl) (S:backTo pos (starEach [e] X.env)=(false,eval e X.env)::backTo pos (starEach [] X.env):=by rfl) (O:(backTo pos (starEach [e] X.env)).any (·.1)=false:=by rfl)
  (V:(backToKw pos (keywordEach [⟨some "key",ke,kp⟩] X.env)).all (·.1.isSome)=true:=by rfl) (W:(backToKw pos (keywordEach [⟨some "key",ke,kp⟩] X.env)).any (·.1.isNone)=false:=by rfl)
  (Y:(backToKw pos (keywordEach [⟨some "key",ke,kp⟩] X.env)).filterMap (·.1)=[("key" : Str)]:=by rfl):
  JE X (.Call (.Name "sorted" p) [e] [⟨some "key",ke,kp⟩] pos) (y8 kd ok f t):=by
 intro ag s σ H Q I h;obtain⟨B,ρ,d,b,Z,rep,G,q⟩:=h;obtain⟨⟨xd,xb⟩,ex,G⟩:=oX G;cases xd<;>try (cases G;done)
 rename_i ds;obtain⟨x,y,G⟩:=oX G;obtain⟨ks,ek,G⟩:=oX G;split at G
 .rename_i hh;obtain⟨M4,hc,hf,nd⟩:=hh;cases G
  refine wpAny_Call_Name_kw (hV I P hm (u:=.builtin "sorted") rfl ?_);refine callWith_kw (c7 ((fF he hW R) pos ag s σ H (λvs c=>∃v N,vs=[v]/\Ext B N H c/\Is X.K N v (.lst ds)) I ⟨B,ρ,_,_,Z,rep,ex,λv c N T i1 _=>⟨v,N,rfl,T,i1⟩⟩) λus s1 hA=>?_) S O V W;obtain⟨ZP,c,I1,r1,v,N,rfl,T,i1⟩:=hA;obtain⟨u,rfl,ru⟩:=ij r1;refine kws_cons (hk ag s1 σ c N ρ _ _ I1 T.nh (rep.mono T.bn) λj H2 s2 g m2 Gx=>kws_nil ?_);rw[Y];show wpAny _ _ (call (.builtin "sorted") [u] [(("key" : Str),.ref j)]) _ _ _;cases i1
  rename_i l vs hq k;cases ru
  have z:bc N H2:=T.nh.trans m2;obtain⟨its,C,pl,hz⟩:=g.list (z.seq hq);have Nk:vs.length=its.length:=C.length;have No:ds.length=vs.length:=k.length.symm;have Xb:x.length=ds.length:=lx y;have V0:ks.length=x.length:=M.len ek;have V4:its.length<64:=M9
  refine call_function_entry_kw kind_sorted plain_sorted entry_sorted (ksk_s1 _ _) ?_;unfold Builtin.«sorted»;refine wX (m:=checkCount "sorted" 1 1 _) (wY (wX (collect_list pl.isList (wX (wpAny_newList ?_ (by rw[sizeLine_eq];lia))) (by rw[sizeLine_eq];lia))));let h1:Heap:=(s2.heap.push (seqObj "list" #[] 0)).update s2.heap.objs.size (Obj.mapSeq (· ++ its.toArray));have hsz:h1.objs.size=s2.heap.objs.size+1:=by grind[Heap.size_update,size_push']
  have U:∀b o,s2.heap.get? b=some o->h1.get? b=some o:=λb o q=>(Heap.get?_update_ne _ _ _ _ (vS (vX q))).trans (vZ _ q);have E:Inv X ((h1.objs.size,seqObj "list" its.toArray 0)::ag) σ H2 { s2 with heap:=h1.push (seqObj "list" its.toArray 0) } :=
   ml (t':=s2.toks) g (λb u q=>vZ _ (U b u q)) (by rw[hsz];exact le_succ _) (vY _ rfl) de
  have p3:=E.pin (h1.objs.size,seqObj "list" its.toArray 0) (mY _ mX);show wpAny (model X.prog X.w) X.A.in1 (holding [.ref h1.objs.size] (call (.builtin "list.sort") [.ref h1.objs.size] [(("key" : Str),.ref j)])>>=_) _ _ { s2 with heap:=h1.push (seqObj "list" its.toArray 0) };refine wX (wpAny_holding (wpAny_call_entry_kw slot_list_sort ⟨_,p3.1,rfl⟩ entry_list_sort ?_ (ksk_l1 _ _)));show wpAny (model X.prog X.w) X.A.in1.in1 (Builtin.«list.sort» ⟨[.ref h1.objs.size],[(Str.ofString "key",.ref j)]⟩) _ _ _;rw[ksk_t1];refine sj E (vR g.sz (by rw[hsz];exact le_succ _)) (λq hq=>by rw[hsz];exact vS (lt_succ_of_lt (vX (g.pin q hq).1))) Gx C k z M y ek hc hf V4 λpm s' H' N' n F J a hn=>⟨_,rfl,wY ⟨_,rfl,?_⟩⟩;have O:its.length=ds.length:=M9
  rw[O]at n F;have er:=sn M9 hc (sk nd) n F;have Gq:∀i∈pm.toList,i<ds.length:=λi hi=>mem_range.mp (n.perm.mem_iff.mp hi);have r:=oi (k.mono a.bn) pm.toList Gq;rw[er]at r;have L:Ext B N' H H':=(T.trans (.grow T.nh m2)).trans a;have hN:N' h1.objs.size=none:=a.nh.free hn;have x5:=L.trans (Ext.laid (o:=.lst (pm.toList.map λi=>vs.getD i .non)) a.nh hn);exact⟨.ref h1.objs.size,_,J,rfl,q _ _ _ x5 (.lst (ii.of a8) (r.mono (Ext.laid (o:=.lst (pm.toList.map λi=>vs.getD i .non)) a.nh hn).bn)) λ_=>⟨_,_,_,rfl,rfl,L.hh.free hn,a8,r.mono (Ext.laid (o:=.lst (pm.toList.map λi=>vs.getD i .non)) a.nh hn).bn⟩⟩
 .cases G
end
noncomputable def XC {f:String->CmpOp->Builtin}(_:f "__lt__" .Lt=Builtin.«tuple.__lt__»):=f
noncomputable def Wa:String->CmpOp->Builtin:=XC rfl
section
variable {prog:Program}{w:World}{A:Around}{E:QV}{s:Shared}{op:CmpOp}
theorem gh.type (h:gh s.heap xs v):s.TypeIs v "tuple":=by
 obtain⟨a,o,its,n,rfl,G,hc,_⟩:=h;exact⟨o,G,hc⟩
inductive GeW (prog:Program)(w:World)(A:Around)(s:Shared)(op:CmpOp)(gz r:Bool):List (Value×Value)->Prop
 |nil (h:gz=r):GeW prog w A s op gz r []
 |eq {u v:Value}{l:List (Value×Value)}(h:SeqAt.EqAt A s u v true) (t:GeW prog w A s op gz r l):GeW prog w A s op gz r ((u,v)::l)
 |ne {u v:Value}{l:List (Value×Value)}(h:SeqAt.EqAt A s u v false) (t:∀(Q E:Value->Shared->Prop),Q (.bool r) s->wpAny (model prog w) A (richCompare op u v) Q E s):GeW prog w A s op gz r ((u,v)::l)
theorem Lp {nm:String}(M:s.TypeIs (.ref b) "tuple")(O:s.heap.get? a=some oa)(T:oa.data=.seq its na)(U:s.heap.get? b=some ob)(c:ob.data=.seq EC nb)
  (W:GeW prog w A s op gz r (its.toList.zip EC.toList)) (hz:Builtin.Tuple.tupleCompareSizes op its.size EC.size=.bool gz) (d:op=.Lt\/op=.Gt\/op=.GtE) (q:P (.done (.ret (.bool r))) s):wpAny (model prog w) A (Wa nm op ⟨[.ref a,.ref b],[]⟩) P E s:=by
 show wpAny _ _ (isInstance _ _>>=_) _ _ s;refine wX (wpAny_isInstance M isSubtype_tuple_tuple ?_);refine wX (wpAny_tupleItemsOf O T ?_);refine wX (wpAny_tupleItemsOf U c ?_);refine wX ?_;refine wpAny_forIn_list _ (λay z s'=>z.1=none/\s'=s/\GeW _ w A s op _ r ay) _ ?_ ?_ _ _ ⟨rfl,rfl,W⟩
 .rintro⟨u,v⟩ ay z s' ⟨hz,rfl,W⟩;cases W with
  |eq h t=>
   refine wX (h _ _ _ _ ?_);simp_all[wY]
  |ne h t=>
   refine wX (h _ _ _ _ ?_);have t:=t (λv G=>v=.bool r/\G=s') E ⟨rfl,rfl⟩;rcases d with rfl|rfl|rfl<;>exact wX (wpAny_rule (wX (wpAny_mono t (λv G hv=>by obtain⟨rfl,rfl⟩:=hv;exact wX (wY (wY (wY q)))) λ_ _ z=>z)))
 .rintro⟨f,g⟩ s' ⟨e,rfl,W⟩;subst e;refine wY ?_;cases W with
  |nil h=>
   simp_all
structure CmR (prog:Program)(w:World)(A:Around)(s:Shared)(op:CmpOp)(R:List At->List At->Bool->Prop)(fl:Nat->Nat->Bool):Prop where
 ei:∀ {a xs ys r},R (.i a::xs) (.i a::ys) r->R xs ys r
 es:∀ {a xs ys r},R (.s a::xs) (.s a::ys) r->R xs ys r
 ni:∀ {a c xs ys r},a≠c->R (.i a::xs) (.i c::ys) r->∀t u (Q E:Value->Shared->Prop),Q (.bool r) s->wpAny (model prog w) A (richCompare op (.int a t) (.int c u)) Q E s
 ns:∀ {a c xs ys r},a≠c->R (.s a::xs) (.s c::ys) r->∀t u (Q E:Value->Shared->Prop),Q (.bool r) s->wpAny (model prog w) A (richCompare op (.str a t) (.str c u)) Q E s
 mx:∀ {a c xs ys r},¬R (.i a::xs) (.s c::ys) r/\¬R (.s c::xs) (.i a::ys) r
 en:∀ {xs r},(R [] xs r->fl 0 xs.length=r)/\(R xs [] r->fl xs.length 0=r)
 fs:∀ {m n},fl (m+1) (n+1)=fl m n
theorem HS (C:CmR prog w A s op R fl)(xs ys:List At)(its G:LU)(O:Paired B7 xs its)(T:Paired B7 ys G)(h:R xs ys r):GeW prog w A s op (fl xs.length ys.length) r (its.zip G):=by
 induction O generalizing ys G with
 |nil=>exact .nil (C.en.1 h)
 |@cons x v xs its O U ih=>
  cases T with
  |nil=>exact .nil (C.en.2 h)
  |@cons y u ys G T M=>
   cases x with
   |i a=>
    cases y with
    |s _=>exact absurd h C.mx.1
    |i c=>
     obtain⟨t,rfl⟩:=O;obtain⟨u,rfl⟩:=T;have he:=SeqAt.EqAt.int_int (A:=A) (s:=s) a t c u;rw[vE,vE,C.fs];by_cases e:a=c
     .subst e;rw[show(a == a)=true by simp]at he;exact .eq he (ih ys G M (C.ei h))
     .rw[show(a == c)=false by simp[e]]at he;exact .ne he (C.ni e h t u)
   |s a=>
    cases y with
    |i _=>exact absurd h C.mx.2
    |s c=>
     obtain⟨t,rfl⟩:=O;obtain⟨u,rfl⟩:=T;have he:=SeqAt.EqAt.str_str (A:=A) (s:=s) a t c u;rw[vE,vE,C.fs];by_cases e:a=c
     .subst e;rw[show(a == a)=true by simp]at he;exact .eq he (ih ys G M (C.es h))
     .rw[show(a == c)=false by simp[e]]at he;exact .ne he (C.ns e h t u)
theorem RB:CmR prog w A s .Lt (λxs ys r=>bv xs ys=some r) (λm n=>decide (m<n)) where
 ei h:=by rwa [bv,if_pos rfl]at h
 es h:=by rwa [bv,if_pos rfl]at h
 ni e h _ _ _ _ q:=by rw[bv,if_neg e]at h;cases h;exact PyProof.Rows.lt_int q
 ns e h _ _ _ _ q:=by rw[bv,if_neg e]at h;cases h;exact PySem.P.lt_str q
 mx:=by simp[bv]
 en:=λ{xs}=>by cases xs<;>simp[bv]
 fs:=N9
theorem RC:CmR prog w A s .Gt (λxs ys r=>bv ys xs=some r) (λm n=>decide (n<m)) where
 ei h:=by rwa [bv,if_pos rfl]at h
 es h:=by rwa [bv,if_pos rfl]at h
 ni e h _ _ _ _ q:=by rw[bv,if_neg (Ne.symm e)]at h;cases h;exact PyProof.Rows.gt_int q
 ns e h _ _ _ _ q:=by rw[bv,if_neg (Ne.symm e)]at h;cases h;exact PySem.P.gt_str q
 mx:=by simp[bv]
 en:=λ{xs}=>by cases xs<;>simp[bv]
 fs:=N9
theorem HU (hx:gh s.heap xs (.ref a)):∃o its n,s.heap.get? a=some o/\o.data=.seq its n/\Paired B7 xs its.toList/\xs.length=its.size:=by
 obtain⟨M,o,its,n,e,G,hc,hd,p⟩:=hx;cases e
 exact⟨o,its,n,G,hd,p,by exact fO p⟩
theorem MU {nm:String}(C:CmR prog w A s op R fl)(hz:∀m n,Builtin.Tuple.tupleCompareSizes op m n=.bool (fl m n))(G:op=.Lt\/op=.Gt\/op=.GtE)(hx:gh s.heap xs (.ref a))(hy:gh s.heap ys (.ref b))(h:R xs ys r)(q:P (.done (.ret (.bool r))) s):wpAny (model prog w) A (Wa nm op ⟨[.ref a,.ref b],[]⟩) P E s:=by
 have hb:=hy.type;obtain⟨_,_,_,T,hd,p,l1⟩:=HU hx;obtain⟨_,_,_,M,O,U,l2⟩:=HU hy;exact Lp hb T hd M O (HS C _ _ _ _ p U h) (by rw[l1,l2];exact hz _ _) G q
theorem HV (hx:gh s.heap xs x)(hy:gh s.heap ys y)(h:bv xs ys=some r)(hu:A.units<cLine)(q:Q (.bool r) s):wpAny (model prog w) A (richCompare .Lt x y) Q E s:=by
 have G:=hx.type;have ty:=hy.type;obtain⟨a,_,_,_,rfl,_⟩:=id hx;obtain⟨b,_,_,_,rfl,_⟩:=id hy;exact wpAny_richCompare_same_room  G ty slot_tuple_lt (wpAny_call_entry slot_tuple_lt G PySem.F.entry_tuple_lt (MU RB (λ_ _=>rfl) (.inl rfl) hx hy h ⟨_,rfl,(λe=>nomatch e),q⟩) (PySem.F.args_tuple_lt_2 _ _)) hu
theorem RD (hx:gh s.heap xs x)(hy:gh s.heap ys y)(h:bv ys xs=some r)(hu:A.units<cLine)(q:Q (.bool r) s):wpAny (model prog w) A (richCompare .Gt x y) Q E s:=by
 have G:=hx.type;have ty:=hy.type;obtain⟨a,_,_,_,rfl,_⟩:=id hx;obtain⟨b,_,_,_,rfl,_⟩:=id hy;exact wpAny_richCompare_same_room  G ty slot_tuple_gt (wpAny_call_entry slot_tuple_gt G PySem.F.entry_tuple_gt (MU RC (λ_ _=>rfl) (.inr (.inl rfl)) hx hy h ⟨_,rfl,(λe=>nomatch e),q⟩) (PySem.F.args_tuple_gt_2 _ _)) hu
end
def qd:List At×D->List (List At×D)->D
 |b,[]=>b.2
 |b,x::r=>if bv b.1 x.1=some true then qd x r else qd b r
def qe:List At×D->List (List At×D)->D
 |b,[]=>b.2
 |b,x::r=>if bv x.1 b.1=some true then qe x r else qe b r
noncomputable def XD {f:String->CmpOp->Builtin}(_:f "max" .Gt=Builtin.«max.loop»):=f
noncomputable def XE:String->CmpOp->Builtin:=XD rfl
noncomputable def XF {f:String->Builtin}(_:f "max" = Builtin.«max»):=f
noncomputable def XG:String->Builtin:=XF rfl
structure MM (nm lp:String)(ns:Str)(op:CmpOp)(lt:List At->List At->Option Bool)(go:List At×D->List (List At×D)->D):Prop where
 hn:(toString nm++toString ".loop" : String)=lp
 en:entryFor table lp=some (XE nm op)
 pl:plainId lp=true
 k2:builtinKind nm=none
 p2:plainId nm=true
 e2:entryFor table nm=some (XG nm)
 ka:∀a v:Value,argsOk nm ⟨[a],[(Str.ofString "key",v)]⟩
 bt:bootBuiltins ns=some (.builtin nm)
 n1:ns ≠ "__name__"
 n2:(ns == ("__debug__" : Str))=false
 g0:∀b,go b []=b.2
 g1:∀b x r,go b (x::r)=if lt b.1 x.1=some true then go x r else go b r
 cg:∀ {ks:List (List At)},dj ks=true->∀ {a b},a∈ks->b∈ks->∃r,lt a b=some r
 rc:∀ {prog:Program}{w:World}{A:Around}{E:Value->Shared->Prop}{s:Shared}{xs ys:List At}{x y:Value}{r:Bool}{Q:Value->Shared->Prop},gh s.heap xs x->gh s.heap ys y->lt ys xs=some r->A.units<cLine->Q (.bool r) s->wpAny (model prog w) A (richCompare op x y) Q E s
theorem Wb:MM "max" "max.loop" "max" .Gt bv qd :=
 ⟨V9,PySem.F.entry_max_loop,PySem.F.plain_max_loop,PySem.F.kind_max,PySem.F.plain_max,PySem.F.entry_max,λ_ _=>by kernel_rfl,rfl,V9,V9,λ_=>rfl,λ_ _ _=>rfl,λh _ _ a b=>⟨_,iD h a b⟩,RD⟩
theorem Uy:MM "min" "min.loop" "min" .Lt (λa b=>bv b a) qe :=
 ⟨V9,PySem.F.entry_min_loop,PySem.F.plain_min_loop,PySem.F.kind_min,PySem.F.plain_min,PySem.F.entry_min,λ_ _=>by kernel_rfl,rfl,V9,V9,λ_=>rfl,λ_ _ _=>rfl,λh _ _ a b=>⟨_,iD h b a⟩,HV⟩
section
variable {X:Cx}{ag:AO}{σ:St}
theorem Co (J:Inv X ((G,M)::(O,T)::ag) σ H' s'):Inv X ((O,T)::(G,M)::ag) σ H' s' :=
 J.pins_of λq hq=>J.pin q (by
  grind)
theorem sr (hp:∀q∈X.pn++ag,q.1≠a)(h:S≠a):∀q∈X.pn++((S,o)::ag),q.1≠a:=λq hq=>by
 grind
theorem qT (I:Inv X ag σ H s)(r:aX v u)(i:Is X.K H v d)(e:p6 d=some k):gh s.heap k u:=by
 have:=oh I     (.cons r .nil) (.cons i .nil) (by simp  [ee,e];rfl);cases this;assumption
inductive MK (X:Cx)(ag:List (Addr×Obj))(σ:St)(S It l:Addr)(o:Obj)(j:Nat)(N H:Hp)(y:List At×D)(u ku:Value)(s:Shared):Prop
 |mk (H2 N2:Hp) (v kv:V) (kd:D) (oI:Obj) (J:Inv X ((S,o)::(It,oI)::ag) σ H2 s) (Kj:s.heap.IsListIter It l (j+1)) (x:Ext N N2 H H2) (ru:aX v u) (iv:Is X.K N2 v y.2) (rk:aX kv ku) (ik:Is X.K N2 kv kd) (ek:p6 kd=some y.1)
theorem HW {E:QV}{It:Addr}(hh:X.A.handled=none)(g:DC X X.A.in1 σ (.ref qa) B H1 kf)(hq:ii X.K B l vs)(iv:IsL X.K B vs ds)(h:kn kf ds=some kQ)(ek:ee kQ=some ks)(k:X.s₀.heap.objs.size<=It)(m:∀q∈X.pn++((S,o)::ag),q.1≠It)
  (p:l≠It) (hz:(ks.zip ds)[j]? = some y) (I:Inv X ((S,o)::(It,oI)::ag) σ H s) (Kj:s.heap.IsListIter It l j) (G:Ext B N H1 H):
  wpAny (model X.prog X.w) X.A.in1 (pyNext (.ref It)) (λr s1=>∃u,r=some u/\wpAny (model X.prog X.w) X.A.in1 (call (.ref qa) [u]) (MK X ag σ S It l o j N H y u) (λ_ _=>False) s1) E s:=by
 obtain⟨its,t,pl,_⟩:=I.list ((G.bn.trans G.nh).seq hq);obtain⟨hk,hd⟩:=getElem?_zip_eq_some.mp hz;obtain⟨v,hv,O⟩:=iv.get hd;obtain⟨kd,T,x⟩:=si h hd;obtain⟨u,hu,ru⟩:=t.get hv;have C :=by
  have:=jI ek (i:=j) (vV T).1;rw[vF,T,vF,hk]at this;exact this
 refine(Walks.list   (A:=X.A.in1) hh It l p _).item j _ _ _ (by simpa using(vV hu).1) ⟨Kj,pl.isList⟩ λu' h' P D U F=>?_;have a :=by simpa using D
 rw[hu]at a;cases a;obtain⟨M,J,L,c⟩:=id U.1;exact⟨u,rfl,c7 (g _ _ H N v u y.2 kd (Co (iP  (Co I) k m (λb o n e=>F b o (by simpa using n) e) J (λv z=>by rw[c]at z;cases z))) G.hh G.bn G.nh (O.mono G.bn) ru x) λku s2 ⟨kv,H2,d,rk,N2,f,ik⟩=>
  ⟨H2,N2,v,kv,kd,M,d,⟨M,(d.pin (It,M) (mY _ (mZ _ mX))).1,L,c⟩,f,ru,O.mono (G.bn.trans f.bn),rk,ik,C⟩⟩
theorem Lq {nm lp:String}{ns:Str}{op:CmpOp}{lt:List At->List At->Option Bool}{go:List At×D->List (List At×D)->D}(M:MM nm lp ns op lt go){C:Value}{l S It:Addr}{vs:LV}{ds Q:LD}{ks:List (List At)}{B E:Hp}{Y:D->Option D}{d0:D}{R:Result->Shared->Prop}(hh:X.A.handled=none)(hu:X.A.in1.units<cLine)(Gx:DC X X.A.in1 σ C B E Y)(ZS:∃a,C=.ref a)(hq:ii X.K B l vs)(iv:IsL X.K B vs ds)
  (Z:kn Y ds=some Q) (ek:ee Q=some ks) (hc:dj ks=true) (S0:X.s₀.heap.objs.size<=S) (I0:X.s₀.heap.objs.size<=It) (Ta:∀q∈X.pn++ag,q.1≠S) (PP:∀q∈X.pn++ag,q.1≠It) (p:S≠It) (PR:S≠l) (PQ:l≠It)
  (hR:∀(s':Shared)(H' N:Hp)(v:V)(u:Value),Inv X ag σ H' s'->Ext B N E H'->aX v u->Is X.K N v d0->R (.ok (.ret u)) s'):
  ∀(r j:Nat)(s:Shared)(H N:Hp)(O G:Value)(h T:V)(i U:D)(k:List At)(c:Nat)(oI:Obj),vs.length - j=r->j<=vs.length->Inv X ((S,seqObj "list" #[O,G] c)::(It,oI)::ag) σ H s->s.heap.IsListIter It l j->Ext B N E H ->
   aX h O->Is X.K N h i->aX T G->Is X.K N T U->p6 U=some k->k∈ks->go (k,i) ((ks.zip ds).drop j)=d0 ->
   codeAny (model X.prog X.w) X.A (.builtin lp ⟨[.ref It,C,.ref S],[]⟩) R s:=by
 obtain⟨qa,rfl⟩:=ZS;intro r;induction r with
 |zero=>
  intro j s H N O G h T i U k c oI hr hj I Kj d F i1 J i2 f mk hd;have L:=I.pin (S,seqObj "list" #[O,G] c) (mY _ mX);have sB:bc B H:=d.bn.trans d.nh;obtain⟨its,rv,pl,_⟩:=I.list (sB.seq hq);have hl:=pl.isList;have W:=Walks.list (prog:=X.prog) (w:=X.w) (A:=X.A.in1) hh It l PQ its.toArray;have hsz:its.toArray.size=its.length:=vH ..;have Nk:vs.length=its.length:=rv.length;have No:ds.length=its.length:=by rw[<-iv.length];exact rv.length
  have Xa:i=d0:=by
   rw[List.drop_of_length_le (by rw[length_zip];lia)]at hd;rw[M.g0]at hd;exact hd
  subst Xa;refine codeAny_builtin M.en ?_;rw[Around.under_plainId M.pl _];show wpAny _ X.A.in1 (seqItems? (.ref S)>>=_) _ _ _;refine wX (wpAny_seqItems L.1 rfl ?_);show wpAny _ X.A.in1 (tryCatch (pyNext (.ref It)) _>>=_) _ _ _;refine wX (wpAny_tryCatch (W.done _ _ _ ⟨by grind,hl⟩ λh' SN Np=>?_));have t:Inv X ((It,oI)::(S,seqObj "list" #[O,G] c)::ag) σ H s:=Co I;have V6:∀q∈X.pn++((S,seqObj "list" #[O,G] c)::ag),q.1≠It:=sr PP p;have J2  :=
   (jJ t).turned (t':=SN) (λb o n e=>Np b o (by simpa using n) e) (t.pin (It,oI) (mY _ mX)).2.1 (t.pin (It,oI) (mY _ mX)).2.2.1 (.inr I0) (p8 t) V6
  have Xh:=J2.pin (S,seqObj "list" #[O,G] c) (mY _ mX);obtain⟨c2,Nq⟩:∃c2,(h'.update S (Obj.mapSeq λ_=>(#[]:AV))).get? S=some (seqObj "list" #[] c2):=⟨_,get?_update_seq Xh.1 λ_=>#[]⟩;have x:=vW h' S (Obj.mapSeq λ_=>(#[]:AV));show wpAny _ X.A.in1 (updateSeq S (λ_=>#[])>>=_) _ _ _;refine wX ?_;refine wpAny_updateSeq Xh.1 rfl (wX (wpAny_letGo (wY ?_)));exact hR _ H N h O (jJ (iP (t':=SN) J2 S0 Ta (λb o n e=>(x.2 b n).trans e) Nq de)) d F i1
 |succ r ih=>
  intro j s H N O G h T i U k c oI hr hj I Kj d F i1 J i2 f mk hd;have B4:j<(ks.zip ds).length:=by rw[length_zip,gE ek,lx Z,<-iv.length];lia
  have L:=I.pin (S,seqObj "list" #[O,G] c) (mY _ mX);have hz:=vU B4;rw[List.drop_eq_getElem_cons B4,M.g1]at hd;generalize (ks.zip ds)[j]=y at hz hd;have hm:y.1∈ks:=vL (getElem?_zip_eq_some.mp hz).1;obtain⟨r,P⟩:=M.cg hc mk hm;refine codeAny_builtin M.en ?_;rw[Around.under_plainId M.pl _];show wpAny _ X.A.in1 (seqItems? (.ref S)>>=_) _ _ _;refine wX (wpAny_seqItems L.1 rfl ?_);show wpAny _ X.A.in1 (tryCatch (pyNext (.ref It)) _>>=_) _ _ _;refine wX (wpAny_tryCatch (c7 (HW hh Gx hq iv Z ek I0 (sr PP p) PQ hz I Kj d) λ_ s1 ⟨u,e,h1⟩=>?_));subst e;refine wX (wpAny_tryCatch (wpAny_holding (wpAny_mono h1 (λku s2 ⟨H2,N2,v,kv,kd,TC,m,Tc,g,ru,SS,rk,ik,Qw⟩=>?_) λ_ _ z=>z.elim)));have t1:=qT m rk (ik.mono g.nh) Qw;have t2:=qT m J (i2.mono (g.bn.trans g.nh)) f;refine wX (wpAny_tryCatch (wpAny_holding (wX (M.rc t1 t2 P hu ?_))));refine wX (wpAny_holding (wpAny_truthy_bool ?_));refine wX (wpAny_letGo (wY ?_));cases r with
  |true=>
   rw[if_pos P]at hd;have x:=vW s2.heap S (Obj.mapSeq λ_=>#[u,ku]);simp only[if_true];have Td:=m.pin (S,seqObj "list" #[O,G] c) (mY _ mX);refine wX (wpAny_updateSeq Td.1 rfl (wX (wpAny_letGo ?_)));rw[M.hn];obtain⟨o,g1,g2⟩:=Tc;exact wY ⟨plainId_quiet M.pl _,ih (j+1) _ H2 N2 u ku v kv y.2 kd y.1 _ TC M9 M9 (iP (t':=s2.toks) m S0 (sr Ta p.symm) (λb o n e=>(x.2 b n).trans e) (get?_update_seq Td.1 λ_=>#[u,ku]) de) ⟨o,(x.2 It p.symm).trans g1,g2⟩ (d.trans g) ru SS rk ik Qw hm hd⟩
  |false=>
   rw[if_neg (by rw[P];simp)]at hd;simp only[uV,if_false];refine wX (wpAny_letGo ?_);rw[M.hn];exact wY ⟨plainId_quiet M.pl _,ih (j+1) _ H2 N2 O G h T i U k c TC M9 M9 m Tc (d.trans g) F (i1.mono g.bn) J (i2.mono g.bn) f mk hd⟩
end
@[simp] def OJ (go:List At×D->List (List At×D)->D)(f:FE)(M:Env->D->Option D):FE:=λρ=>(f ρ).bind λx=>match x.1 with
 |.lst ds=>(kn (M ρ) ds).bind λG=>(ee G).bind λks=>if dj ks=true then match ks.zip ds with
  |[]=>none
  |y::r=>some (go y r,false)
  else none
 |_=>none
@[simp] def Ax:=OJ qd
@[simp] def wK:=OJ qe
section
variable {X:Cx}{e ke:Expr}{p pos kp:Pos}
theorem Ay {nm lp:String}{ns:Str}{op:CmpOp}{lt:List At->List At->Option Bool}{go:List At×D->List (List At×D)->D}(M:MM nm lp ns op lt go){f:FE}{r:Env->D->Option D}{k:Nat}(hm:X.mg ns=none)(he:JE X e f)(hk:JK X X.A.in1 ke r)(t:eU k X.A)(hg:Gl X ns:=by rfl)
  (TB:starEach [e] X.env=[(false,eval e X.env)]:=by rfl) (Qv:backTo pos (starEach [e] X.env)=(false,eval e X.env)::backTo pos (starEach [] X.env):=by rfl) (JY:(backTo pos (starEach [e] X.env)).any (·.1)=false:=by rfl)
  (CS:(backToKw pos (keywordEach [⟨some "key",ke,kp⟩] X.env)).all (·.1.isSome)=true:=by rfl) (SX:(backToKw pos (keywordEach [⟨some "key",ke,kp⟩] X.env)).any (·.1.isNone)=false:=by rfl)
  (SY:(backToKw pos (keywordEach [⟨some "key",ke,kp⟩] X.env)).filterMap (·.1)=[("key" : Str)]:=by rfl):
  JE X (.Call (.Name ns p) [e] [⟨some "key",ke,kp⟩] pos) (OJ go f r):=by
 intro ag s σ H Q I h;obtain⟨B,ρ,d,b,sB,rep,G,q⟩:=h;obtain⟨⟨xd,xb⟩,ex,G⟩:=oX G;cases xd<;>try (cases G;done)
 rename_i ds;obtain⟨kQ,w,G⟩:=oX G;obtain⟨ks,ek,G⟩:=oX G;split at G
 .rename_i hc;split at G
  .cases G
  .rename_i y ay g;cases G
   refine wpAny_Call_Name_kw (hV I hg hm M.bt ?_ M.n1 M.n2);refine callWith_kw (c7 ((fF he hW TB) pos ag s σ H (λvs a=>∃v N,vs=[v]/\Ext B N H a/\Is X.K N v (.lst ds)) I ⟨B,ρ,_,_,sB,rep,ex,λv a N T i1 _=>⟨v,N,rfl,T,i1⟩⟩) λus s1 hA=>?_) Qv JY CS SX;obtain⟨ZP,a,I1,r1,v,N,rfl,T,i1⟩:=hA;obtain⟨u,rfl,ru⟩:=ij r1;refine kws_cons (hk ag s1 σ a N ρ _ _ I1 T.nh (rep.mono T.bn) λi H2 s2 U m2 x=>kws_nil ?_);rw[SY];cases i1
   rename_i l vs hq j;cases ru
   have C:bc N H2:=T.nh.trans m2;obtain⟨its,rv,pl,hz⟩:=U.list (C.seq hq);have E:l<s2.heap.objs.size:=by
    obtain⟨ol,T8,_⟩:=pl.isList;exact vX T8
   have F:(ks.zip ds)[0]? = some y:=by rw[g];rfl
   have ZT:=vL (getElem?_zip_eq_some.mp F).1;refine kmk_tree M.k2 M.p2 M.e2 (M.ka _ _) ?_;refine wX (wpAny_of_eq (show Builtin.Builtins.bindParams nm ["key","default"] 0 ⟨[],[(Str.ofString "key",.ref i)]⟩=pure [some (.ref i),none]from rfl) ?_);refine wX (wY ?_);refine wX (wpAny_pyIter_list pl.isList ?_);refine wX (wpAny_newList ?_ (uN _));rw[M.hn];let It:Addr:=s2.heap.objs.size;let oI:Obj:={ cls:=.type "list_iterator",data:=.fields #[.ref l,.int 0 0] };let S:Addr:=(s2.heap.push oI).objs.size;have c:S=s2.heap.objs.size+1:=size_push' ..;have O:S≠It:=by rw[c];exact ne_of_gt (Nat.lt_succ_self _)
   have J1:Inv X ((It,oI)::ag) σ H2 { s2 with heap:=s2.heap.push oI }:=ml (t':=s2.toks) U (λb u q=>vZ _ q) (vT _) (vY _ rfl) (λv z=>by cases z);have m:Inv X ((S,seqObj "list" #[] 0)::(It,oI)::ag) σ H2 _:=ml (s:={ s2 with heap:=s2.heap.push oI }) (t':=s2.toks) J1 (λb u q=>vZ _ q) (vT _) (vY _ rfl) de;have J:X.s₀.heap.objs.size<=It:=U.sz;have L:X.s₀.heap.objs.size<=S:=by rw[c];exact le_succ_of_le U.sz
   have P:∀q∈X.pn++ag,q.1≠It:=λq hq=>vS (vX (U.pin q hq).1);have R:∀q∈X.pn++ag,q.1≠S:=λq hq=>by rw[c];exact vS (lt_succ_of_lt (vX (U.pin q hq).1))
   have V:l≠It:=vS E;have PR:S≠l:=by rw[c];exact ne_of_gt (lt_succ_of_lt E)
   have hh:X.A.handled=none:=t.hd;have hu:X.A.in1.units<cLine:=by have:=t.un;show X.A.units+1<cLine;lia
   have pS:=m.pin (S,seqObj "list" #[] 0) (mY _ mX);have pI:=m.pin (It,oI) (mY _ (mZ _ mX));refine wY ⟨plainId_quiet M.pl _,?_⟩;refine codeAny_builtin M.en ?_;rw[Around.under_plainId M.pl _];refine wX (wpAny_seqItems pS.1 rfl ?_);refine wX (wpAny_tryCatch (c7 (HW hh x hq j w ek J (sr P O) V F m ⟨oI,pI.1,rfl,rfl⟩ (.refl C)) λ_ s1 ⟨u,e,h1⟩=>?_));subst e;refine wX (wpAny_tryCatch (wpAny_holding (wpAny_mono h1 (λku W ⟨H3,N3,v,kv,kd,TC,Y,⟨o,g1,g2⟩,x3,ru,SS,rk,ik,Qw⟩=>?_) λ_ _ z=>z.elim)));have Z:=Y.pin (S,seqObj "list" #[] 0) (mY _ mX);have u2:=vW W.heap S (Obj.mapSeq λ_=>#[u,ku]);refine wX (wpAny_updateSeq Z.1 rfl ?_);rw[M.hn];have V8:1<=vs.length:=by
    have:=congrArg List.length g;rw[length_zip,vE,<-j.length]at this;lia
   exact wY ⟨plainId_quiet M.pl _,Lq M (S:=S) (It:=It) hh hu x ⟨i,rfl⟩ hq j w ek hc L J R P O PR V (λs' H' N' v' u' J' x' r' i'=>⟨v',H',J',r',q _ _ _ ((T.trans (.grow T.nh m2)).trans x') i' N9⟩) _ 1 _ H3 N3 u ku v kv y.2 kd y.1 _ TC rfl V8
    (iP (t':=W.toks) Y L (sr R O.symm) (λb o n e=>(u2.2 b n).trans e) (get?_update_seq Z.1 λ_=>#[u,ku]) de) ⟨o,(u2.2 It O.symm).trans g1,g2⟩ x3 ru SS rk ik Qw ZT (by rw[g];rfl)⟩
 .cases G
end
section
variable {X:Cx}
@[simp] def Th:D->D->OB
 |.tup xs,.tup ys=>(km xs).bind λas=>(km ys).bind λbs=>(bv as bs).map λr=>(.bl r,false)
 |_,_=>none
theorem RE (hu:X.A.units+40<cLine):dU X (compareOp .Lt) (rD X.K Th):=by
 intro ag s σ H x y v u Q I M O q;obtain⟨B,dx,T,d,b,G,U,a,e,q⟩:=q;cases dx<;>try (simp  at e)
 cases T<;>try (simp  at e)
 obtain⟨as,c,e⟩:=oX e;obtain⟨bs,e2,e⟩:=oX e;obtain⟨r,f,e⟩:=oY e;cases e
 exact HV (qT I M (U.mono G) c) (qT I O (a.mono G) e2) f M9 ⟨.bl r,H,I,rfl,q.one G (.bl r)⟩
end
end DL
namespace DL
open PySem PySem.Spec PyProof.Rows L2
section
variable {X:Cx}
@[simp] def y9:LD->OB
 |[d,.tup [.ty n,.ty m]]=>if EZ d=true then none else if n = "list"/\m = "tuple" then some (.bl (jz d == "list" || jz d == "tuple"),false)else none
 |_=>none
theorem Ft (K:Frag)(d:D)(hd:∀n,d≠.ty n):PySem.W.kitAny K (.type (jz d)) [.type "list",.type "tuple"]=some (jz d == "list" || jz d == "tuple"):=by
 obtain⟨_,_,_,k4,k5⟩:=Hl K d hd;unfold PySem.W.kitAny;rw[k4];cases jz d == "list" with
 |true=>rfl
 |false=>
  unfold PySem.W.kitAny;rw[k5];cases jz d == "tuple" with
  |true=>rfl
  |false=>rfl
theorem HX (I:Inv X ag σ H s)(i:Is X.K H v d)(hd:∀n,d≠.ty n)(G:aX v u)(O:IsTup s.heap tp its.toArray)(e:PySem.W.kitAny X.K (.type (jz d)) its=some b)(h:∀tk,Q (.bool b) { s with toks:=tk }):
  wpAny (model X.prog X.w) A (call (.builtin "isinstance") [u,.ref tp]) Q E s:=by
 obtain⟨⟨cls,dd,data,sl⟩,M,hc,n,T⟩:=id O;subst hc;subst T;cases i with
 |non=>cases (show u=Value.none from G);exact PySem.W.kia_tup PySem.W.kitx_none I.kIn True.intro M e (λz=>nomatch z) h
 |bl y=>cases (show u=Value.bool y from G);exact PySem.W.kia_tup PySem.W.kitx_bool I.kIn True.intro M e (λz=>nomatch z) h
 |int i=>obtain⟨t,q⟩:=(show ∃t,u=Value.int i t from G);cases q;exact PySem.W.kia_tup PySem.W.kitx_int I.kIn True.intro M e (λz=>nomatch z) h
 |str y=>obtain⟨t,q⟩:=(show ∃t,u=Value.str y t from G);cases q;exact PySem.W.kia_tup PySem.W.kitx_str I.kIn True.intro M e (λz=>nomatch z) h
 |ty n=>exact absurd rfl (hd n)
 |dk h1 _ _=>
  cases G
  obtain⟨_,_,_,vs,_,o,es,a,U,e2,_⟩:=(show bP X.prog X.w H s.heap _ (.dK _ _)from I.hok _ _ h1);exact PySem.W.kia_tup PySem.W.kitx_dict I.kIn ⟨o,U,e2.1⟩ M e (λz=>nomatch z) h
 |dt h1 _ _=>
  cases G
  obtain⟨_,_,xs,_,o,es,a,U,e2,_⟩:=(show bP X.prog X.w H s.heap _ (.dT _)from I.hok _ _ h1);exact PySem.W.kia_tup PySem.W.kitx_dict I.kIn ⟨o,U,e2.1⟩ M e (λz=>nomatch z) h
 |tup O _=>
  cases G
  obtain⟨its,_,⟨o,h1,h2,_⟩,_⟩:=I.tuple O;exact PySem.W.kia_tup PySem.W.kitx_tuple I.kIn ⟨o,h1,h2⟩ M e (λz=>nomatch z) h
 |lst hl _=>
  cases G
  obtain⟨its,_,⟨o,n,h1,h2,_⟩,_⟩:=I.list hl;exact PySem.W.kia_tup PySem.W.kitx_list I.kIn ⟨o,h1,h2⟩ M e (λz=>nomatch z) h
theorem Fu:cn X (.builtin "isinstance") (Di X.K y9):=by
 intro ag s σ H xs us Q I T q;obtain⟨B,ds,d,b,G,i,e,q⟩:=q;cases i with
 |nil=>cases e
 |@cons _ dx _ _ i1 i=>
  cases i with
  |nil=>cases e
  |cons i2 i=>
   cases i with
   |cons _ _=>simp  at e
   |nil=>
    cases i2<;>try (cases e)
    rename_i hs hl;cases hl with
    |nil=>cases e
    |cons U hl=>
     cases U<;>try (cases e)
     cases hl with
     |nil=>cases e
     |cons a hl=>
      cases a<;>try (cases e)
      cases hl with
      |cons _ _=>simp  at e
      |nil=>
       obtain⟨j,k,rfl,c,f⟩:=G7 T;simp only[y9]at e;split at e
       .cases e
       .rename_i g;have hd:∀n,dx≠.ty n:=λn z=>by subst z;exact g rfl
        split at e
        .rename_i hh;obtain⟨rfl,rfl⟩:=hh;cases e
         cases f
         obtain⟨its,h,p,_⟩:=I.tuple (bw G hs);obtain⟨l,m,rfl,M,O⟩:=h.two;cases M
         cases O
         exact HX I (i1.mono G) hd c p (Ft X.K dx hd) λtk=>⟨.bl _,H,I.tok tk,rfl,q.one G (.bl _)⟩
        .cases e
end
@[simp] noncomputable def mD:D->Option ft
 |.int i=>some (.inl i)
 |.str x=>some (.inr x)
 |_=>none
theorem wL {K:Frag}{B:Hp}{v:V}{d:D}{k:ft}(i:Is K B v d)(e:mD d=some k):v=kV k:=by
 cases i<;>simp  [mD]at e<;>cases e<;>rfl
noncomputable def cA {κ:Type}[DecidableEq κ]:List κ->LD->κ->Option D
 |k'::ks,d::ds,k=>if k'=k then some d else cA ks ds k
 |_,_,_=>none
theorem yA {κ:Type}[DecidableEq κ]{K:Frag}{B:Hp}(k:κ):∀ {ks:List κ}{vs:LV}{ds:LD},ks.length=vs.length->IsL K B vs ds ->
  (∃v d,lq (ks.zip vs) k=some v/\cA ks ds k=some d/\Is K B v d)\/(lq (ks.zip vs) k=none/\cA ks ds k=none)
 |[],vs,ds,_,_=>.inr ⟨by cases vs<;>rfl,by cases ds<;>rfl⟩
 |k'::ks,[],_,h,_=>by simp at h
 |k'::ks,v::vs,_,h,.cons i is=>by
  rw[zip_cons_cons];unfold cA;by_cases e:k'=k
  .rw[if_pos e];exact .inl ⟨v,_,nJ  e,rfl,i⟩
  .rw[if_neg e,nL  e];exact yA k (by simpa using h) is
section
variable {X:Cx}{o e i:Expr}{pos:Pos}
@[simp] def OK:D->D->OB
 |.dk ks vs,y=>(mD y).map λk=>((cA ks vs k).getD .non,false)
 |_,_=>none
theorem HY {di cj:Pos}{b fe:FE}(hu:X.A.units+1<cLine)(c:JE X o b)(he:JE X e fe)(m:M1 X o "get" di e cj):JE X (.Call (.Attribute o "get" di) [e] [] cj) (f2 OK b fe):=by
 refine PE.to (zw hu c he m) λσ H Q q=>?_;obtain⟨B,ρ,d,bb,f,r,G,q⟩:=q;obtain⟨x,ex,G⟩:=oX G;obtain⟨y,g,G⟩:=oX G;refine⟨B,ρ,x.1,x.2,f,r,ex,λv l N1 O i1 n=>?_⟩;obtain⟨xd,p⟩:=x;cases i1 with
 |@dk a ks vs ds ob h hl hs=>
  obtain⟨k,hk,G⟩:=oY G;cases G
  refine⟨a,rfl,.inl ⟨_,_,.inl (O.nh _ _ h)⟩,N1,ρ,y.1,y.2,O.nh,r.mono O.bn,g,λs H2 N2 M i2 _=>?_⟩;have hv:=wL i2 hk;subst hv;refine⟨lq _ k,.inl ⟨_,k,_,.inl (M.nh _ _ (M.bn _ _ h)),rfl,rfl⟩,?_⟩;have T:=hs.mono M.bn;rcases yA k hl T with⟨v,d',U,e2,j⟩|⟨U,e2⟩
  .rw[U];rw[e2]at q;exact(q.into (O.trans M)).one M.nh j
  .rw[U];rw[e2]at q;exact(q.into (O.trans M)).one M.nh .non
 |_=>simp  at G
@[simp] def ixK:D->D->OB
 |.dk ks vs,y=>(mD y).bind λk=>(cA ks vs k).map λd=>(d,false)
 |_,_=>none
@[simp] def Wc:D->D->OB
 |y,.dk ks vs=>(mD y).map λk=>(.bl (cA ks vs k).isSome,false)
 |_,_=>none
theorem Fv {κ:Type}[DecidableEq κ]{K:Frag}{B:Hp}{k:κ}{ks:List κ}{vs:LV}{ds:LD}(hl:ks.length=vs.length)(hs:IsL K B vs ds):(lq (ks.zip vs) k).isSome=(cA ks ds k).isSome:=by
 grind[yA]
end
noncomputable def eY {κ:Type}[DecidableEq κ](ks:List κ)(k:κ):List κ:=if k∈ks then ks else ks++[k]
noncomputable def dr {κ α:Type}[DecidableEq κ](ks:List κ)(xs:List α)(k:κ)(x:α):List α:=if k∈ks then List.zipWith (λk' G=>if k'=k then x else G) ks xs else xs++[x]
theorem DE {κ:Type}[DecidableEq κ](k:κ):∀ {ks:List κ}{vs:LV},ks.length=vs.length->((ks.zip vs).any λkv=>decide (kv.1=k))=decide (k∈ks)
 |[],_,_=>by simp
 |k'::ks,[],h=>by simp at h
 |k'::ks,v::vs,h=>by
  have ih:=DE k   (by simpa using h);simp_all<;>lia
theorem DF {κ:Type}[DecidableEq κ](k:κ)(v:V):∀(ks:List κ)(vs:LV),(ks.zip vs).map (λkv=>if kv.1=k then (kv.1,v)else kv)=ks.zip (List.zipWith (λk' G=>if k'=k then v else G) ks vs)
 |[],_=>by simp
 |_::_,[]=>by simp
 |k'::ks,w::vs=>by
  rw[zip_cons_cons,uY,DF k v ks vs,List.zipWith_cons_cons,zip_cons_cons];lia
theorem qU {κ:Type}[DecidableEq κ]{ks:List κ}{vs:LV}(hl:ks.length=vs.length)(k:κ)(v:V):pj (ks.zip vs) k v=(eY ks k).zip (dr ks vs k v):=by
 unfold pj eY dr;rw[DE k hl];by_cases h:k∈ks
 .rw[if_pos (zh h),if_pos h,if_pos h,DF]
 simp_all[List.zip_append]
theorem om {κ α:Type}[DecidableEq κ]{ks:List κ}{xs:List α}(hl:ks.length=xs.length)(k:κ)(x:α):(eY ks k).length=(dr ks xs k x).length:=by
 unfold eY dr;split<;>simp[hl]
theorem IsL.zipWith {κ:Type}[DecidableEq κ]{K:Frag}{B:Hp}{k:κ}{v:V}{d:D}(i:Is K B v d):∀ {ks:List κ}{vs:LV}{ds:LD},IsL K B vs ds->IsL K B (List.zipWith (λk' G=>if k'=k then v else G) ks vs) (List.zipWith (λk' G=>if k'=k then d else G) ks ds)
 |[],_,_,_=>by simpa using IsL.nil
 |_::_,_,_,.nil=>by simpa using IsL.nil
 |k'::ks,_,_,.cons h t=>by
  rw[List.zipWith_cons_cons];refine .cons ?_ (IsL.zipWith i t);split<;>simp_all
theorem IsL.put {κ:Type}[DecidableEq κ]{K:Frag}{B:Hp}{k:κ}{v:V}{d:D}(i:Is K B v d){ks:List κ}{vs:LV}{ds:LD}(h:IsL K B vs ds):IsL K B (dr ks vs k v) (dr ks ds k d):=by
 unfold dr;split
 .exact h.zipWith i
 .exact h.append (.cons i .nil)
section
variable {K:Frag}{E:Ends}{σ:St}{H:Hp}
noncomputable def DG (i:Nat):FS:=λρ=>some (.nx (ρ.set i (some (.dk [] [],true))))
noncomputable def HZ (i:Nat):FS:=λρ=>some (.nx (ρ.set i (some (.dt [] [],true))))
theorem eN.newBox (s:eN K B0 H0 N H σ ρ)(i:Nat)(hp:H p=none)(hb:∀C,Bx K C ob dd):eN K B0 H0 (upd N p ob) (upd H p ob) (σ.set i (some (.ref p))) (ρ.set i (some (dd,true))):=by
 have x:=Ext.laid (o:=ob) s.ext.nh hp;have s1:=s.grow x;have G :=s.ext.nh.free hp;have M:¬own σ ρ p:=λz=>by obtain⟨ws,⟨q,_⟩,_⟩:=s.owned z;lia
 have c:bc _ (gg (upd N p ob) (λb=>own σ ρ b\/b=p)):=fz λb u e q=>⟨x.bn _ _ e,λz=>z.elim q λz=>by subst z;rw[G]at e;cases e⟩;refine s1.bindOwn a8 (s.ext.hh.free hp) (λj e q z=>M ⟨j,e,q,z⟩) (λj e _ q=>?_) (λj e _ q=>?_) (hb _)
 .obtain⟨w,h1,h2⟩:=s.sh j e q;exact⟨w,h1,h2.mono c⟩
 .obtain⟨O,o',h1,h2,_,h4⟩:=s.ow j e q;exact⟨O,o',h1,x.bn _ _ h2,h4.mono c⟩
theorem Ia (q:pb K (DG i) E σ H):EG GO (lm i) E σ H:=by
 obtain⟨B0,H0,ρ,r,⟨N,s⟩,e,p⟩:=q;cases e
 exact λa ob ha=>p _ _ ⟨_,s.newBox i ha λ_=>.dk (ks:=[])  rfl .nil⟩
theorem Ib (q:pb K (HZ i) E σ H):EG GP (lm i) E σ H:=by
 obtain⟨B0,H0,ρ,r,⟨N,s⟩,e,p⟩:=q;cases e
 exact λa ha=>p _ _ ⟨_,s.newBox i ha λ_=>.dt (ks:=[])  rfl .nil⟩
def Az (i:Nat)(M O:FE):FS:=λρ=>match ρ[i]? with
 |some (some (.dk ks vs,true))=>(O ρ).bind λv=>(M ρ).bind λk=>(mD k.1).bind λG=>if bC v.1=true/\ks.length<sizeLine then some (.nx (ρ.set i (some (.dk (eY ks G) (dr ks vs G v.1),true))))else none
 |_=>none
theorem Ic {i:Nat}{G M:FE}(q:pb K (Az i G M) E σ H):Dg (qH i) (tD K G) (tD K M) E σ H:=by
 obtain⟨B0,H0,ρ,r,⟨N,s⟩,e,p⟩:=q;unfold Az at e;split at e
 .rename_i ks ds ei;obtain⟨v,ev,e⟩:=oX e;obtain⟨k,ek,e⟩:=oX e;obtain⟨T,hk,e⟩:=oX e;split at e
  .rename_i hx;cases e
   refine⟨N,ρ,v.1,v.2,s.ext.nh,s.rep,ev,λc d N1 U i1 _=>?_⟩;have s1:=s.grow U;obtain⟨a,o,h1,h2,h3,h4⟩:=s1.ow i _ ei;refine⟨.ref a,h1,N1,ρ,k.1,k.2,s1.ext.nh,s1.rep,ek,λf H2 N2 O i2 _=>?_⟩;have s2:=s1.grow O;have hv:=wL i2 hk;subst hv;obtain⟨g,o',k1,k2,k3,k4⟩:=s2.ow i _ ei;rw[h1]at k1;cases k1
   cases k4 with
   |@dk ks vs ds hl h5 ob=>
    refine⟨a,rfl,.inl ⟨_,T,_,s2.ext.nh _ _ k2,rfl,?_,λb=>?_⟩⟩
    .rw[length_zip];lia
    .rw[qU hl];exact p σ _ ⟨_,s2.writeB ei h1 (.dk (om hl _ _) (h5.put (s2.flat (i1.mono O.bn) hx.1)))⟩
  .cases e
 simp_all
end
section
variable {X:Cx}{pos:Pos}{e k:Expr}
theorem DH (G:X.N.Nodup)(hi:X.N[i]? = some x:=by rfl)(hx:Kb X.env.scope x:=by first|exact Or.inl rfl|exact Or.inr rfl)(hs:swapsWith (.Dict [] [] dp) (some (.Name x p)) pos.line X.env=pure false:=by rfl)
  (hf:X.fn x=true\/X.env.scope.names.lookup x=some .local:=by first|exact .inl rfl|exact .inr rfl):JS X (.Assign [.Name x p] (.Dict [] [] dp) pos) (DG i):=PS.to (xP G hi hx GQ hs hf) λ_ _ _ q=>Ia q
theorem Lr (G:X.N.Nodup)(hi:X.N[i]? = some x:=by rfl)(hx:Kb X.env.scope x:=by first|exact Or.inl rfl|exact Or.inr rfl)(hs:swapsWith (.Dict [] [] dp) (some (.Name x p)) pos.line X.env=pure false:=by rfl)
  (hf:X.fn x=true\/X.env.scope.names.lookup x=some .local:=by first|exact .inl rfl|exact .inr rfl):JS X (.Assign [.Name x p] (.Dict [] [] dp) pos) (HZ i):=PS.to (xP G hi hx GS hs hf) λ_ _ _ q=>Ib q
theorem Ls (hu:X.A.units+1<cLine)(hv:JE X e T)(hk:JE X k U)(O:X.N[i]? = some y:=by rfl)(G:Nw X.env.scope y:=by first|exact Or.inl rfl|exact Or.inr (Or.inl rfl)|exact Or.inr (Or.inr rfl))(hd:(y == ("__debug__" : Str))=false:=by decide)
  (M:(y == ("__classdict__" : Str))=false:=by decide) (hs:swapsWith e (some (.Subscript (.Name y py) k pt)) pos.line X.env=pure false:=by rfl):JS X (.Assign [.Subscript (.Name y py) k pt] e pos) (Az i U T) :=
 PS.to (xY hu (rh O G hd M) hk hv hs) λ_ _ _ q=>Ic q
end
section
variable {prog:Program}{w:World}{A:Around}{E:QV}{s:Shared}
abbrev p9 (h:Heap)(z TI TO G:Addr)(f:Bool):Prop:=h.get? z=some { cls:=.type "zip",dict:=none,data:=.fields #[rawInt G,.bool f,.bool false,.ref TI,.ref TO],slots:=#[] }
theorem Ie (e:s.heap.get? a=some o)(h:Q (some o) s):wpAny (model prog w) A (loadIfAlive a) Q E s:=by
 intro M p G;simp_all[loadIfAlive]
theorem wM {z TI TO G:Addr}{f:Bool}{O:Obj}{Q:Bool->Shared->Prop}(hz:p9 s.heap z TI TO G f)(T:s.heap.get? G=some O)
  (q:∀h',p9 h' z TI TO G true->Heap.SameBut z s.heap h'->Q false { s with heap:=h' }):wpAny (model prog w) A (Builtin.SmallTypes.ownedTupleIsFree (.ref z)) Q E s:=by
 refine wX (wpAny_field hz rfl  rfl ?_);show wpAny _ _ (loadIfAlive _>>=_) _ _ _;refine wX (Ie T ?_);refine wX (wpAny_field hz rfl  rfl ?_);cases f with
 |true=>
  exact wY (q _ hz (.refl _ _))
 |false=>
  refine wX (wpAny_setField_rec hz N9 λh' M s'=>wY (q h' M s'))
end
section
variable {prog:Program}{w:World}{A:Around}{E:QV}{s:Shared}
theorem Fw {k1 k2:Bool}{z TI TO T i1 i2 l1 l2:Addr}{f:Bool}{i:Obj}{j:Nat}{xs ys:AV}{x y:Value}{Q:QV}(D:ZApart z TI TO i1 i2)(m1:l1≠z/\l1≠TO/\l1≠i1)(m2:l2≠z/\l2≠TO/\l2≠i1/\l2≠i2)
  (hz:p9 s.heap z TI TO T f) (k:s.heap.get? T=some i) (l:IsPair s.heap TI (.ref i1) (.ref i2)) (m:md k1 s.heap i1 l1 j) (n:md k2 s.heap i2 l2 j) (p:mf k1 s.heap l1 xs) (r:mf k2 s.heap l2 ys) (hx:xs[j]? = some x) (hy:ys[j]? = some y)
  (q:∀h',p9 h' z TI TO T true->md k1 h' i1 l1 (j+1)->md k2 h' i2 l2 (j+1)->IsPair h' s.heap.objs.size x y ->
   (∀c o,c≠z->c≠i1->c≠i2->s.heap.get? c=some o->h'.get? c=some o)->Q (.ref s.heap.objs.size) { s with heap:=h' }):
  wpAny (model prog w) A (Builtin.«zip.__next__» ⟨[.ref z],[]⟩) (λgz s'=>∃v,gz=.done (.ret v)/\Q v s') E s:=by
 show wpAny _ _ (field (.ref z) 2>>=_) _ _ s;refine wX (wpAny_field hz rfl (x:=.bool false) rfl ?_);refine wX (wpAny_field hz rfl (x:=.ref TI) rfl (wX (wpAny_seqItems l rfl ?_)));refine wX (wM hz k λg1 U s1=>?_);simp only[uV,if_false];refine wX ?_;refine wX (wX (wpAny_holding ?_));refine wX (gD (s:={ s with heap:=g1 }) (m.upon λo e=>s1.extBut _ _ D.az e) (p.upon λo e=>s1.extBut _ _ m1.1 e) hx λh a s2=>wY ?_);refine wY (wX (wX (wpAny_holding ?_)));have G:∀ {c o},c≠z->c≠i1->s.heap.get? c=some o->h.get? c=some o:=λM c3 e=>s2.extBut _ _ c3 (s1.extBut _ _ M e);refine wX (gD (s:={ s with heap:=h }) (n.upon λo e=>G D.bz D.ab.symm e) (r.upon λo e=>G m2.1 m2.2.2.1 e) hy λb d O=>wY ?_);refine wY (wY ?_);refine wX (wpAny_newTuple (hsz:=(by decide:2<=sizeLine)) ?_);have sz:b.objs.size=s.heap.objs.size:=by rw[O.1,s2.1,s1.1]
 have t:∀c o,c≠z->c≠i1->c≠i2->s.heap.get? c=some o->b.get? c=some o:=λc o M c3 g e=>O.extBut _ _ g (G M c3 e);refine wY ⟨_,rfl,?_⟩;have hp:IsPair _ b.objs.size x y:=vY _ rfl;rw[sz]at hp |-;exact q _ (vZ _ (O.extBut _ _ D.bz.symm (s2.extBut _ _ D.az.symm U))) (a.upon λo e=>vZ _ (O.extBut _ _ D.ab e)) (d.upon λo e=>vZ _ e) hp λc o M c3 g e=>vZ _ (t c o M c3 g e)
theorem Ig {k1 k2:Bool}{z TI TO T i1 i2 l1 l2:Addr}{f:Bool}{d:Obj}{j:Nat}{xs ys:AV}{Q:PySem.Fin->Shared->Prop}(U:A.handled=none)(D:ZApart z TI TO i1 i2)(m1:l1≠z/\l1≠TO/\l1≠i1)(m2:l2≠z/\l2≠TO/\l2≠i1/\l2≠i2)
  (hz:p9 s.heap z TI TO T f) (g:s.heap.get? T=some d) (h:IsPair s.heap TI (.ref i1) (.ref i2)) (a:md k1 s.heap i1 l1 j) (i:md k2 s.heap i2 l2 j) (b:mf k1 s.heap l1 xs) (k:mf k2 s.heap l2 ys) (he:xs[j]? = none\/ys[j]? = none)
  (q:∀h' x,(∀c o,c≠z->c≠i1->c≠i2->s.heap.get? c=some o->h'.get? c=some o)->(∃o,h'.get? x=some o/\o.cls=.type "StopIteration")->E (.ref x) { s with heap:=h' }):
  wpAny (model prog w) A (Builtin.«zip.__next__» ⟨[.ref z],[]⟩) Q E s:=by
 show wpAny _ _ (field (.ref z) 2>>=_) _ _ s;refine wX (wpAny_field hz rfl (x:=.bool false) rfl ?_);refine wX (wpAny_field hz rfl (x:=.ref TI) rfl (wX (wpAny_seqItems h rfl ?_)));refine wX (wM hz g λg1 l s1=>?_);refine wX ?_;refine wX (wX (wpAny_holding ?_));cases hx:xs[j]? with
 |none=>
  exact wX (jF (s:={ s with heap:=g1 }) U (a.upon λo e=>s1.extBut _ _ D.az e) (b.upon λo e=>s1.extBut _ _ m1.1 e) hx λO x s2 hX=>q O x (λc o M c3 _ e=>s2 _ _ c3 (s1.extBut _ _ M e)) hX)
 |some v=>
  have hy:ys[j]? = none:=by
   lia
  refine wX (gD (s:={ s with heap:=g1 }) (a.upon λo e=>s1.extBut _ _ D.az e) (b.upon λo e=>s1.extBut _ _ m1.1 e) hx λO m s2=>wY ?_);refine wY (wX (wX (wpAny_holding ?_)));have G:∀ {c o},c≠z->c≠i1->s.heap.get? c=some o->O.get? c=some o:=λM c3 e=>s2.extBut _ _ c3 (s1.extBut _ _ M e);exact wX (jF (s:={ s with heap:=O }) U (i.upon λo e=>G D.bz D.ab.symm e) (k.upon λo e=>G m2.1 m2.2.2.1 e) hy λn x p hX=>q n x (λc o M c3 r e=>p _ _ r (G M c3 e)) hX)
end
structure ZA (k1 k2:Bool)(z TI TO i1 i2 l1 l2:Addr):Prop where
 D:ZApart z TI TO i1 i2
 m1:l1≠z/\l1≠TO/\l1≠i1
 m2:l2≠z/\l2≠TO/\l2≠i1/\l2≠i2
def Ih (k1 k2:Bool)(z TI TO i1 i2 l1 l2 S:Addr)(i:Nat)(h:Heap):Prop :=
 IsPair h TI (.ref i1) (.ref i2)/\md k1 h i1 l1 i/\md k2 h i2 l2 i/\((IsZip h z TI TO .none/\∃a b,IsPair h TO a b)\/∃G f M O,p9 h z TI TO G f/\h.get? G=some M/\G∉[z,TI,TO,i1,i2]/\G≠S/\h.get? TO=some O)
theorem Ih.keep {k1 k2:Bool}{z TI TO i1 i2 l1 l2 S:Addr}{i:Nat}{h h':Heap}(st:Ih k1 k2 z TI TO i1 i2 l1 l2 S i h)(G:S∉[z,TI,TO,i1,i2])(k:∀b o,b≠S->h.get? b=some o->h'.get? b=some o):Ih k1 k2 z TI TO i1 i2 l1 l2 S i h':=by
 obtain⟨M,O,T,U⟩:=st;have n:∀ {b},b∈[z,TI,TO,i1,i2]->b≠S:=λhb e=>G (e ▸ hb);refine⟨k _ _ (n N9) M,O.upon λo e=>k _ o (n N9) e,T.upon λo e=>k _ o (n N9) e,?_⟩;rcases U with⟨b1,a,b,b2⟩|⟨c,f,d,g,b1,b2,b3,b4,j⟩
 .exact .inl ⟨k _ _ (n N9) b1,a,b,k _ _ (n N9) b2⟩
 .exact .inr ⟨c,f,d,g,k _ _ (n N9) b1,k _ _ b4 b2,b3,b4,k _ _ (n N9) j⟩
section
variable {prog:Program}{w:World}{A:Around}{E:QV}{s:Shared}{k1 k2:Bool}{z TI TO i1 i2 l1 l2 S:Addr}{j:Nat}{xs ys:AV}
theorem Ih.ty (st:Ih k1 k2 z TI TO i1 i2 l1 l2 S j h):∃o,h.get? z=some o/\o.cls=.type "zip":=by
 obtain⟨_,_,_,G⟩:=st;rcases G with⟨b1,_⟩|⟨M,f,O,T,b1,_⟩
 .exact⟨_,b1,rfl⟩
 .exact⟨_,b1,rfl⟩
theorem Ii (Z:ZA k1 k2 z TI TO i1 i2 l1 l2)(i:S<s.heap.objs.size)(st:Ih k1 k2 z TI TO i1 i2 l1 l2 S j s.heap)(g:mf k1 s.heap l1 xs)(h:mf k2 s.heap l2 ys)(hx:xs[j]? = some x)(hy:ys[j]? = some y)
  (q:∀h',Ih k1 k2 z TI TO i1 i2 l1 l2 S (j+1) h'->IsPair h' s.heap.objs.size x y->(∀c o,c∉[z,TI,TO,i1,i2]->s.heap.get? c=some o->h'.get? c=some o)->Q (some (.ref s.heap.objs.size)) { s with heap:=h' }):
  wpAny (model prog w) A (pyNext (.ref z)) Q E s:=by
 have G :=st.ty;obtain⟨M,T,U,k⟩:=st;have lt:∀ {c o},s.heap.get? c=some o->s.heap.objs.size≠c:=λe=>ne_of_gt (vX e);obtain⟨r,t,_⟩:=T.ob;obtain⟨u,e2,_⟩:=U.ob;rcases k with⟨hz,a,b,d⟩|⟨l,f,m,n,hz,h0,n0,p,d⟩
 .refine wX (wpAny_attempt (wpAny_callSpecial?_slot  G slot_zip_next (wpAny_call_entry slot_zip_next G entry_zip_next (zR Z.D Z.m1 Z.m2 hz M d T U g h hx hy λh' b1 b2 b3 b4 O v bk=>wY ?_) (args_zip_next_1 _))));refine q h' ⟨bk _ _ Z.D.tz Z.D.to Z.D.ta Z.D.tb M,b3,b4,.inr ⟨_,false,_,_,b1,O,?_,ne_of_gt i,b2⟩⟩ O λc o hc e=>bk c o (λz=>hc (by simp[z])) (λz=>hc (by simp[z])) (λz=>hc (by simp[z])) (λz=>hc (by simp[z])) e;simp_all
 .refine wX (wpAny_attempt (wpAny_callSpecial?_slot  G slot_zip_next (wpAny_call_entry slot_zip_next G entry_zip_next (Fw Z.D Z.m1 Z.m2 hz h0 M T U g h hx hy λh' b1 b3 b4 O bk=>wY ?_) (args_zip_next_1 _))));exact q h' ⟨bk _ _ Z.D.tz Z.D.ta Z.D.tb M,b3,b4,.inr ⟨l,true,m,n,b1,bk _ _ (λz=>n0 (by simp[z])) (λz=>n0 (by simp[z])) (λz=>n0 (by simp[z])) h0,n0,p,bk _ _ Z.D.oz Z.D.oa Z.D.ob d⟩⟩ O λc o hc e=>bk c o (λz=>hc (by simp[z])) (λz=>hc (by simp[z])) (λz=>hc (by simp[z])) e
theorem Ij (O:A.handled=none)(Z:ZA k1 k2 z TI TO i1 i2 l1 l2)(st:Ih k1 k2 z TI TO i1 i2 l1 l2 S j s.heap)(T:mf k1 s.heap l1 xs)(U:mf k2 s.heap l2 ys)(he:xs[j]? = none\/ys[j]? = none)
  (q:∀h',(∀c o,c∉[z,TI,TO,i1,i2]->s.heap.get? c=some o->h'.get? c=some o)->Q none { s with heap:=h' }):wpAny (model prog w) A (pyNext (.ref z)) Q E s:=by
 have G :=st.ty;obtain⟨d,g,h,k⟩:=st;unfold pyNext;rcases k with⟨hz,a,b,i⟩|⟨l,f,m,n,hz,h0,n0,p,i⟩
 .refine wX (wpAny_attempt (wpAny_callSpecial?_slot  G slot_zip_next (wpAny_call_entry slot_zip_next G entry_zip_next (Dy O Z.D Z.m1 Z.m2 hz d i g h T U he λh' x hk hX=>?_) (args_zip_next_1 _))));obtain⟨o,M,co⟩:=hX;exact wX (wpAny_isInstance  (b:=true) ⟨o,M,co⟩ isSubtype_stop (wY (q h' λc o hc e=>hk c o (λz=>hc (by simp[z])) (λz=>hc (by simp[z])) (λz=>hc (by simp[z])) (λz=>hc (by simp[z])) e)))
 .refine wX (wpAny_attempt (wpAny_callSpecial?_slot  G slot_zip_next (wpAny_call_entry slot_zip_next G entry_zip_next (Ig O Z.D Z.m1 Z.m2 hz h0 d g h T U he λh' x hk hX=>?_) (args_zip_next_1 _))));obtain⟨o,M,co⟩:=hX;exact wX (wpAny_isInstance  (b:=true) ⟨o,M,co⟩ isSubtype_stop (wY (q h' λc o hc e=>hk c o (λz=>hc (by simp[z])) (λz=>hc (by simp[z])) (λz=>hc (by simp[z])) e)))
end
theorem Ik (h:a≠b):upd (upd H a o) b u=upd (upd H b u) a o:=by
 funext c;unfold upd;lia
theorem ly (h:H a=none):bc H (upd H a o):=λb u e=>by rw[aK (bi e h)];exact e
theorem Fx (h:(jG ds es)[i]? = some d):(jG ds es).take (i+1)=(jG ds es).take i++[d]:=by
 rw[take_add_one,h];rfl
theorem Cp:typeLookup (.type "zip") "__len__" = pure none:=H9
theorem A0:typeLookup (.type "zip") "__length_hint__" = pure none:=H9
section
variable {X:Cx}{ag:AO}{σ:St}{B H0:Hp}{A:Around}{R:Result->Shared->Prop}{k1 k2:Bool}{z TI TO i1 i2 l1 l2 S:Addr}{us ws:LV}{ds es:LD}
theorem Fy (L:A.handled=none)(Z:ZA k1 k2 z TI TO i1 i2 l1 l2)(a:S∉[z,TI,TO,i1,i2])(h1:mQ k1 X.K B l1 us)(m:IsL X.K B us ds)(h2:mQ k2 X.K B l2 ws)(n:IsL X.K B ws es)
  (hR:∀G N vs s',Inv X ag σ (upd G S (.lst vs)) s'->G S=none->Ext B N H0 G->IsL X.K N vs (jG ds es)->R (.ok (.ret .none)) s'):
  ∀(k i:Nat)(s:Shared)(G N:Hp)(vs:LV),(jG ds es).length - i=k->i<=(jG ds es).length->Inv X ag σ (upd G S (.lst vs)) s->G S=none->Ext B N H0 G->(∀b∈[z,TI,TO,i1,i2],mO X ag (upd G S (.lst vs)) b) ->
   Ih k1 k2 z TI TO i1 i2 l1 l2 S i s.heap->IsL X.K N vs ((jG ds es).take i) ->
   codeAny (model X.prog X.w) A (.builtin "list.extend.loop" ⟨[.ref S,.ref z,.none],[]⟩) R s:=by
 have n1:=m.length;have n2:=n.length;have nz:(jG ds es).length=min ds.length es.length:=by simp_all[jG]
 intro k;induction k with
 |zero=>
  intro i s G N vs hk hi I hc M fp st d;have Gq:i=(jG ds es).length:=M9
  have U:bc B (upd G S (.lst vs)):=(M.bn.trans M.nh).trans (ly hc);obtain⟨its,g,h,p⟩:=(h1.same U).vals I;obtain⟨P,j,p2,Q⟩:=(h2.same U).vals I;have W:=g.length;have e2:=j.length;refine codeAny_builtin PySem.F.entry_extend_loop ?_;rw[Around.under_plainId plain_extend_loop _];show wpAny _ A.in1 (pyNext (.ref z)>>=_) _ _ s;refine wX (Ij (A:=A.in1) L Z st h p2 ?_ λh' O=>?_)
  .by_cases q:ds.length<=es.length
   .left;simp;lia
   .right;simp;lia
  .refine wY (hR G N vs _ (mh (t':=s.toks) I fp O) hc M ?_);grind
 |succ k ih=>
  intro i s G N vs hk hi I hc M fp st d;have Y:i<(jG ds es).length:=M9
  have U:bc B (upd G S (.lst vs)):=(M.bn.trans M.nh).trans (ly hc);obtain⟨its,g,h,p⟩:=(h1.same U).vals I;obtain⟨P,j,p2,Q⟩:=(h2.same U).vals I;have d1:i<ds.length:=M9
  have d2:i<es.length:=M9
  obtain⟨x,hx,ix⟩:=m.get (vU d1);obtain⟨y,hy,iy⟩:=n.get (vU d2);obtain⟨u,hu,ru⟩:=g.get hx;obtain⟨v,hv,rv⟩:=j.get hy;have el:(jG ds es)[i]? = some (.tup [ds[i],es[i]]):=by
   simp_all[jG]
  obtain⟨zl,My,c,ZV,ev0,r⟩:=I.lstM a8;have t:S<s.heap.objs.size:=vX r;refine codeAny_builtin PySem.F.entry_extend_loop ?_;show wpAny _ A.in1 (pyNext (.ref z)>>=_) _ _ s;refine wX (Ii (A:=A.in1) Z t st h p2 (by simpa using hu) (by simpa using hv) λh' Qr hp O=>?_);have C:upd G S (.lst vs) s.heap.objs.size=none:=I.hok.fresh (vT _);have l:s.heap.objs.size≠S:=ne_of_gt t;have D:G s.heap.objs.size=none:=by rw[aK l]at C;exact C
  have new:bP X.prog X.w (upd (upd G S (.lst vs)) s.heap.objs.size (.tup [x,y])) h' s.heap.objs.size (.tup [x,y]):=⟨by show 2<=sizeLine;decide,[u,v],.cons ru (.cons rv .nil),⟨_,hp,rfl,_,rfl⟩⟩;have E :=Dz (s:=s) (t':=s.toks) I fp O (vT _) new;rw[Ik l.symm]at E;have H :=O S _ a r;have T:Ext B (upd N s.heap.objs.size (.tup [x,y])) H0 (upd G s.heap.objs.size (.tup [x,y])):=M.trans (Ext.laid M.nh D);have vl:vs.length=i:=by rw[d.length,length_take];lia
  have zs:=zl;refine wX ?_;have lz:(vs++[V.ref s.heap.objs.size]).length<=sizeLine:=by
   rw[uZ,vl];have a1:=p;show i+1<=sizeLine;lia
  have J:=E.lset (t':=s.toks) (ys:=vs++[.ref s.heap.objs.size]) (its':=My++[.ref s.heap.objs.size]) (f:=(·.push (Value.ref s.heap.objs.size))) a8 H N9 (ZV.append (.cons (show aX (.ref _) (.ref _)from rfl) .nil)) lz;rw[nF]at J;refine wpAny_updateSeq H rfl (wY ⟨plainId_quiet plain_extend_loop _,ih (i+1) _ _ _ (vs++[.ref s.heap.objs.size]) M9 Y J (by rw[aK l.symm];exact hc) T (λb hb=>?_) (Qr.keep a λb o hb e=>(Heap.get?_update_other _ _ (Ne.symm hb)).trans e) ?_⟩) S9 S9
  .obtain⟨f0,f1,f2,f3,f4,f5⟩:=fp b hb;refine⟨?_,f1,f2,f3,f4,f5⟩;have nb:b≠S:=λe=>a (e ▸ hb);rw[aK nb]at f0 |-;have nT:b≠s.heap.objs.size:=by
    obtain⟨hI,t1,t2,a4⟩:=st;obtain⟨o1,W,_⟩:=t1.ob;obtain⟨o2,e2,_⟩:=t2.ob;have lt:∀ {c o},s.heap.get? c=some o->c≠s.heap.objs.size:=λe=>vS (vX e);grind
   rw[aK nT];exact f0
  .rw[Fx el];exact(d.mono (Ext.laid M.nh D).bn).append (.cons (.tup (jw.of a8) (.cons (ix.mono T.bn) (.cons (iy.mono T.bn) .nil))) .nil)
end
section
variable {X:Cx}{ag:AO}{σ:St}{B H:Hp}{s:Shared}{k1 k2:Bool}{z TI TO i1 i2 l1 l2:Addr}{us ws:LV}{ds es:LD}
theorem vt (u:X.A.handled=none)(I:Inv X ag σ H s)(Z:ZA k1 k2 z TI TO i1 i2 l1 l2)(fp:∀b∈[z,TI,TO,i1,i2],mO X ag H b)
  (v:IsPair s.heap TI (.ref i1) (.ref i2)) (l:md k1 s.heap i1 l1 0) (m:md k2 s.heap i2 l2 0) (hz:IsZip s.heap z TI TO .none) (w:IsPair s.heap TO a b)
  (x:bc B H) (h1:mQ k1 X.K B l1 us) (y:IsL X.K B us ds) (h2:mQ k2 X.K B l2 ws) (C:IsL X.K B ws es)
  (q:∀(S:Addr)(U N:Hp)(vs:LV),U S=none->Ext B N H U->IsL X.K N vs (jG ds es)->Q (.ref S) (upd U S (.lst vs))):
  wq X (call (.type "list") [.ref z]) (EP X ag σ Q) X.xe s:=by
 have lt:∀ {c o},s.heap.get? c=some o->s.heap.objs.size≠c:=λe=>ne_of_gt (vX e);have G:s.heap.objs.size∉[z,TI,TO,i1,i2]:=by
  obtain⟨o1,e1,_⟩:=l.ob;obtain⟨o2,e2,_⟩:=m.ob;simp_all
 have nz:s.heap.objs.size≠z:=lt hz;have D:Ih k1 k2 z TI TO i1 i2 l1 l2 s.heap.objs.size 0 s.heap:=⟨v,l,m,.inl ⟨hz,a,b,w⟩⟩;have hc:H s.heap.objs.size=none:=I.fresh;refine callType_codes (Q₁:=λobj O=>obj=.ref s.heap.objs.size/\O={ s with heap:=s.heap.push { cls:=.type "list",data:=.seq #[] } }) PySem.F.called_list (PySem.F.typeCall_list_1 _) PySem.F.entry_list_init
  (code_list_new _ ⟨rfl,rfl⟩) λobj O d=>?_
 obtain⟨rfl,rfl⟩:=d;have g:(s.heap.push { cls:=.type "list",data:=.seq #[] }).get? s.heap.objs.size=some _:=vY _ rfl;have E :=I.lnew (t':=s.toks) (its:=[]) .nil (uN _);have J:Ih k1 k2 z TI TO i1 i2 l1 l2 s.heap.objs.size 0 (s.heap.push { cls:=.type "list",data:=.seq #[] }):=D.keep G λb o _ e=>vZ _ e;refine⟨⟨_,g,rfl⟩,PySem.F.args_list_init_2 _ _,?_⟩;refine wX ?_;unfold Builtin.List.listItems;refine wX (wpAny_seqItems g rfl (wY ?_));refine wX (wpAny_updateSeq g rfl ?_);have h:=E.lset (t':=s.toks) (ys:=[]) (its':=[]) (f:=λ_=>#[]) a8 g rfl .nil (uN _);have M:=J.keep (h':=(s.heap.push { cls:=.type "list",data:=.seq #[] }).update s.heap.objs.size (Obj.mapSeq λ_=>(#[]:AV))) G λb o hb e=>(Heap.get?_update_other _ _ (Ne.symm hb)).trans e;rw[nF]at h;generalize j:(s.heap.push { cls:=.type "list",data:=.seq #[] }).update s.heap.objs.size (Obj.mapSeq λ_=>(#[]:AV))=g2 at h M |-;obtain⟨_,ZY,c2,L,_,n⟩:=h.lstM a8;have e2:=L.zero;subst e2;refine wX (wpAny_letGo ?_);unfold Builtin.List.listExtendWith;refine wX (wpAny_typeOf (T:="zip") M.ty ?_);have P:Builtin.List.listSameRef (.ref s.heap.objs.size) (.ref z)=false:=by simp[Builtin.List.listSameRef,nz]
 have R:(Value.type "zip" == Value.type "list")=false:=V9
 have V:(Value.type "zip" == Value.type "tuple")=false:=V9
 simp only[P,R,V,Bool.or_false,uV,if_false];have W:IsZip g2 z TI TO .none:=by
  rw[<-j];exact(Heap.get?_update_other _ _ nz).trans (vZ _ hz)
 refine wX (wpAny_pyIter_zip W ?_);refine wX (wpAny_holding ?_);unfold Builtin.List.listLengthHint;refine wX (wpAny_specialOf (T:="zip") M.ty Cp ?_);refine wX (wpAny_specialOf (T:="zip") M.ty A0 ?_);refine wY ?_;refine wX (wpAny_rule ?_);refine wX ?_;refine wX (wpAny_updateSeq n rfl ?_);have i:=h.lset (t':=s.toks) (ys:=[.non]) (its':=[.none]) (f:=(·.push .none)) a8 n rfl (.cons (show aX .non .none from rfl) .nil) (by show 1<=sizeLine;decide);have p:=M.keep (h':=g2.update s.heap.objs.size (Obj.mapSeq (·.push .none))) G λb o hb e=>(Heap.get?_update_other _ _ (Ne.symm hb)).trans e;rw[nF]at i;generalize Y:g2.update s.heap.objs.size (Obj.mapSeq (·.push .none))=g3 at i p |-;obtain⟨_,aaa,c3,v3,_,r⟩:=i.lstM a8;obtain⟨n3,rfl,r3⟩:=v3.one;cases r3
 refine wpAny_updateSeq (hz:=by simp<;>decide) r rfl ?_
 have t:=i.lset (t':=s.toks) (ys:=[]) (its':=[]) (f:=(·.pop)) a8 r rfl .nil (uN _);have k:=p.keep (h':=g3.update s.heap.objs.size (Obj.mapSeq (·.pop))) G λb o hb e=>(Heap.get?_update_other _ _ (Ne.symm hb)).trans e;rw[nF]at t;refine wY ⟨plainId_quiet plain_extend_loop _,Fy (A:=X.A.in1) (B:=B) (H0:=H) u Z G h1 y h2 C (λU N vs s' I' PB xt il=>?_) _ 0 _ H B [] rfl (uN _) t hc (Ext.refl x) (λb hb=>?_) k .nil⟩
 .exact⟨rfl,.ref s.heap.objs.size,_,I',rfl,q _ U N vs PB xt il⟩
 .obtain⟨f0,f1⟩:=fp b hb;refine⟨?_,f1⟩;grind[aK]
end
@[simp] def Wd (fa G:FE):FE:=λρ=>(Fd fa G ρ).map λds=>(.lst ds,true)
section
variable {X:Cx}{a b:Expr}{pos p pos2 p2:Pos}
theorem Cq (A:X.calm=true)(hl:X.mg "list" = none)(hm:X.mg "zip" = none)(ha:JE X a fa)(hb:JE X b fb)(g:Gl X "list":=by rfl)(C:Gl X "zip":=by rfl)
  (hs:starEach [a,b] X.env=[(false,eval a X.env),(false,eval b X.env)]:=by rfl) (M:starEach [b] X.env=[(false,eval b X.env)]:=by rfl)
  (t:starEach [.Call (.Name "zip" p2) [a,b] [] pos2] X.env=[(false,eval (.Call (.Name "zip" p2) [a,b] [] pos2) X.env)]:=by rfl):
  JE X (.Call (.Name "list" p) [.Call (.Name "zip" p2) [a,b] [] pos2] [] pos) (Wd fa fb):=by
 intro ag s σ H Q I q;obtain⟨B,ρ,d,bb,E,r,G,gz⟩:=q;obtain⟨zs,u,e2⟩:=oY G;cases e2
 clear G;have G:=u;clear u;obtain⟨v,ex,G⟩:=oX G;obtain⟨w,F,G⟩:=oX G;obtain⟨xs,h,G⟩:=oX G;obtain⟨ys,i,G⟩:=oY G;subst G;refine wpAny_Call_Name_kw (hV I g hl rH ?_ V9 V9);refine PyProof.Rows.callWith_type1 ?_ (by rw[t];rfl) rfl;rw[t];refine Calls.spliced_cons ?_;refine wpAny_Call_Name_kw (hV I C hm MO ?_ V9 V9);refine PyProof.Rows.callWith_type1 (c7 (ak ha (ak hb am M) (by rw[hs,M]) pos2 ag s σ H (λvs f=>∃N1,Ext B N1 H f/\IsL X.K N1 vs [v.1,w.1]) I ⟨B,ρ,[v.1,w.1],E,r,by simp[af,ai,ex,F],λvs f N1 U i1=>⟨N1,U,i1⟩⟩) λus s1 ⟨vs,f,e,J,N1,U,L⟩=>?_) (by rw[hs,M]) (by rw[M];rfl);cases L with
 |cons P j=>
  cases j with
  |cons j R=>
   cases R
   obtain⟨k1,l1,V,rfl,h1,m1⟩:=zS P h;obtain⟨k2,l2,W,rfl,h2,m2⟩:=zS j i;obtain⟨u1,u2,rfl,Y,Z⟩:=J.two;cases Y
   cases Z
   obtain⟨its,v1,x,z1⟩:=(h1.same U.nh).vals e;obtain⟨EC,v2,p2,z2⟩:=(h2.same U.nh).vals e;have Gv:=x.lt;have O:=p2.lt;refine Dx x p2 λh' c1 c2 c3 c4 c5 ck=>?_;have D:ZApart (s1.heap.objs.size+4) (s1.heap.objs.size+2) (s1.heap.objs.size+3) s1.heap.objs.size (s1.heap.objs.size+1):=by
    constructor<;>(simp)
   have c:∀ {l:Addr}(n:Nat),l<s1.heap.objs.size->l≠s1.heap.objs.size+n:=λn hl=>vS (vQ hl (Nat.le_add_right _ n));refine Calls.spliced_nil ?_;refine vt  (k1:=k1) (k2:=k2) (B:=N1) (H:=f) (e.ok.hd A) (e.kept (t':=s1.toks) ck) ⟨D,⟨c 4 Gv,c 3 Gv,c 0 Gv⟩,⟨c 4 O,c 3 O,c 0 O,c 1 O⟩⟩ (λb hb=>?_) c2 c4 c5 c1 c3 U.nh h1 m1 h2 m2 λS Hc N vs k T m=>?_
   .have y:s1.heap.objs.size<=b:=by
     grind
    exact e.fpOk y (e.hok.fresh y)
   .have x3:=(U.trans T).trans (Ext.laid (o:=.lst vs) T.nh k);have z:=m.mono (Ext.laid (o:=.lst vs) T.nh k).bn;exact gz _ _ _ x3 (.lst (ii.of a8) z) λ_=>⟨_,_,_,rfl,rfl,(U.trans T).hh.free k,a8,z⟩
end
end DL
namespace DL
open PySem PySem.Spec PyProof.Rows
theorem yB:typeLookup (.type "list") "keys" = pure none:=H9
theorem Fz 
  (hx:s.heap.get? a=some { cls:=.type "list",dict:=none,data:=.seq xs k,slots:=sl }) (O:A.handled=none)
  (h:∀h' tk,(∀b o,s.heap.get? b=some o->h'.get? b=some o)->Q none { s with heap:=h',toks:=tk }):
  wpAny (model prog w) A (getAttr? (.ref a) "keys") Q E s:=by
 obtain⟨hp,g,d,tk,os⟩:=s;have M:∀G,(⟨hp,g,d,G,os⟩:Shared).TypeIs (.ref a) "list":=λ_=>⟨_,hx,rfl⟩;have f1:=sub_AttributeError;have f3:=slot_list_getattribute.lookup;have f4:=slot_list_getattribute.bind (.ref a);have f5:=am_list_getattr_none;unfold getAttr? getAttrBy? getAttrBy;repeat (any_goals (first|assumption|exact M _|((with_reducible show wpAny _ _ (call (Value.builtin "list.__getattribute__") _ _) _ _ _);refine call_meets slot_list_getattribute (M _) am_entry_list_getattribute (PySem.F.args_list_getattribute_2 _ _) (meets_getattribute_miss_list a xs k sl "keys" _ yB V9 V9) ⟨hx,O,λh' G e hx'=>?_⟩)|wp_step))
 obtain⟨t',u',he⟩:=hx'.there;show wpAny _ _ (getattributeRaised _ _ _ _ _ _ _) _ _ _;unfold getattributeRaised;repeat (any_goals (first|assumption|wp_step))
 exact h _ _ hx'.of.keeps
end DL
namespace DL
open PySem PySem.Spec PyProof.Rows L2
def j0:LD->Option (List (ft×D))
 |[]=>some []
 |.tup [k,v]::r=>(mD k).bind λG=>(j0 r).map λl=>(G,v)::l
 |_=>none
noncomputable def nc (a:LK×LD)(p:ft×D):LK×LD:=(eY a.1 p.1,dr a.1 a.2 p.1 p.2)
noncomputable def ci (l:List (ft×D)):LK×LD:=l.foldl nc ([],[])
theorem su (l:List (ft×D))(p:ft×D):ci (l++[p])=nc (ci l) p:=by simp_all[ci]
theorem sv:∀ {ds:LD}{l:List (ft×D)},j0 ds=some l->l.length=ds.length
 |[],l,h=>by simp[j0]at h;subst h;rfl
 |d::r,l,h=>by
  unfold j0 at h;split at h
  .rename_i h0;cases h0
  .rename_i k v G h0;cases h0
   obtain⟨M,_,h⟩:=oX h;obtain⟨O,h1,rfl⟩:=oY h;simp[sv h1]
  simp_all
theorem sw:∀ {ds:LD}{l:List (ft×D)}{i:Nat}{d:D},j0 ds=some l->ds[i]? = some d->∃k v G,d=.tup [k,v]/\mD k=some G/\l[i]? = some (G,v)
 |[],l,i,d,_,h=>by simp at h
 |d0::r,l,i,d,h,hi=>by
  unfold j0 at h;split at h
  .rename_i h0;cases h0
  .rename_i k v M h0;cases h0
   obtain⟨G,h2,h⟩:=oX h;obtain⟨O,h1,rfl⟩:=oY h;cases i with
   |zero=>simp at hi;subst hi;exact⟨k,v,G,rfl,h2,rfl⟩
   |succ i=>simp only[List.getElem?_cons_succ]at hi |-;exact sw h1 hi
  simp_all
theorem Il (l:List (ft×D)):∀a:LK×LD,a.1.length=a.2.length->(l.foldl nc a).1.length=(l.foldl nc a).2.length/\(l.foldl nc a).1.length<=a.1.length+l.length:=by
 induction l with
 |nil=>simp
 |cons p l ih=>
  intro a h;have h1:(nc a p).1.length<=a.1.length+1:=by
   show(eY _ _).length<=_;unfold eY;split<;>simp
  have:=ih (nc a p) (om h _ _);rw[foldl_cons,vE];exact⟨this.1,M9⟩
theorem F0 (l:List (ft×D)):(ci l).1.length=(ci l).2.length/\(ci l).1.length<=l.length:=by
 have:=Il l ([],[]) rfl;exact⟨this.1,vR this.2 N9⟩
theorem wN:entryFor table "dict.update.loop" = some Builtin.«dict.update.loop»:=entryFor_of_tree T9
theorem mm:plainId "dict.update.loop" = true:=Z9
section
variable {X:Cx}{ag:AO}{σ:St}{B H0:Hp}{A:Around}{R:Result->Shared->Prop}{it l d:Addr}{us:LV}{ds:LD}{kQ:List (ft×D)}
theorem Cr (W:A.handled=none)(nl:l≠it)(nd:d≠it)(hl:ii X.K B l us)(F:IsL X.K B us ds)(hp:j0 ds=some kQ)
  (hR:∀G N vs ob s',Inv X ag σ (upd G d (.dK ((ci kQ).1.zip vs) ob)) s'->G d=none->Ext B N H0 G->(ci kQ).1.length=vs.length->IsL X.K N vs (ci kQ).2->R (.ok (.ret .none)) s'):
  ∀(k i:Nat)(tk:Nat)(s:Shared)(G N:Hp)(vs:LV)(ob:Obj),ds.length - i=k->i<=ds.length->Inv X ag σ (upd G d (.dK ((ci (kQ.take i)).1.zip vs) ob)) s->G d=none->Ext B N H0 G->mO X ag (upd G d (.dK ((ci (kQ.take i)).1.zip vs) ob)) it ->
   s.heap.IsListIter it l i->(ci (kQ.take i)).1.length=vs.length->IsL X.K N vs (ci (kQ.take i)).2 ->
   codeAny (model X.prog X.w) A (.builtin "dict.update.loop" ⟨[.ref d,.ref it,.int i tk,.none],[]⟩) R s:=by
 have n1:=F.length;have n2:=sv hp;intro k;induction k with
 |zero=>
  intro i tk s G N vs ob hk hi I hc M fp st hz hv;have Y:i=ds.length:=M9
  have h:bc B (upd G d (.dK ((ci (kQ.take i)).1.zip vs) ob)):=(M.bn.trans M.nh).trans (ly hc);obtain⟨its,j,m,Z⟩:=I.list (h.seq hl);have e1:=j.length;refine codeAny_builtin wN ?_;rw[Around.under_plainId mm _];refine wX (wpAny_pyNext_list_end (A:=A.in1) W st m.isList S9 λh' Np=>?_);refine wX (wY (wY ?_));have f:=mh (t':=s.toks) (h':=h') (ch:=[it]) I (λb hb=>by rw[uT hb];exact fp) λb o hb e=>Np b o (λq=>hb (by simp[q])) e;rw[Y,<-n2,take_length]at f hz hv;exact hR G N vs ob _ f hc M hz hv
 |succ k ih=>
  intro i tk s G N vs ob hk hi I hc M fp st hz hv;have O:i<ds.length:=M9
  have h:bc B (upd G d (.dK ((ci (kQ.take i)).1.zip vs) ob)):=(M.bn.trans M.nh).trans (ly hc);obtain⟨its,j,m,Z⟩:=I.list (h.seq hl);obtain⟨kd,H,U,ed,ek,el⟩:=sw hp (vU O);obtain⟨x,hx,J⟩:=F.get (vU O);rw[ed]at J;cases J with
  |@tup T xs _ hT n=>
   cases n with
   |cons ik r=>
    cases r with
    |cons iv r=>
     cases r
     rename_i xk p;have t:=wL ik ek;subst t;obtain⟨u,hu,ru⟩:=j.get hx;cases (show u=Value.ref T from ru)
     refine codeAny_builtin wN ?_;rw[Around.under_plainId mm _];refine wX (wpAny_pyNext_list_item (A:=A.in1) st m.isList (x:=.ref T) (by simpa using hu) λh' Qr hs=>?_);have f:=mh (t':=s.toks) (h':=h') (ch:=[it]) I (λb hb=>by rw[uT hb];exact fp) λb o hb e=>hs.extBut b o (λq=>hb (by simp[q])) e;obtain⟨ps,r2,p2,z2⟩:=f.tuple (bw h hT);obtain⟨uk,uv,rfl,rk,rv⟩:=r2.two;have v:Shared.TypeIs { s with heap:=h' } (.ref T) "tuple":=by obtain⟨o,e,c,_⟩:=p2;exact⟨o,e,c⟩
     dsimp only;refine wX (wpAny_holding (wX (wpAny_tryCatch ?_)));unfold Builtin.Dict.pairItems;refine wX (wpAny_typeOf v ?_);obtain⟨oT,eT,cT,nT,dT⟩:=p2;rw[if_pos V9];refine wX (wpAny_seqItems eT dT (wY ?_));obtain⟨zz,Vt,y,rel,dd⟩:=ro f.hok (a:=d) a8;have z:y.length<=sizeLine:=by rw[<-rel.length];exact zz
     have nk:((ci (kQ.take i)).1.zip vs).length<sizeLine:=by
      grind[F0]
     refine wpAny_holding (wpAny_dictSet_pairs (hsz:=z) (zu rk) dd λh2 g L=>?_);have Kh:(pj ((ci (kQ.take i)).1.zip vs) U p).length<=sizeLine:=by have:=lr ((ci (kQ.take i)).1.zip vs) U p;lia
     obtain⟨C,P⟩:∃q,h2.get? d=some q:=let ⟨q,_,_,hq,_⟩:=g;⟨q,hq⟩;have Q:=xX (t':=s.toks+1) f (a:=d)  (by rw[a8];exact True.intro) L ⟨_,P⟩ (GL Kh Vt (rel.put U rv) g P);rw[nF,qU hz]at Q;have S:kQ.take (i+1)=kQ.take i++[(U,H)]:=by rw[take_add_one,el];rfl
     have V:(ci (kQ.take (i+1))).1=eY (ci (kQ.take i)).1 U:=by rw[S,su];rfl
     have E:(ci (kQ.take (i+1))).2=dr (ci (kQ.take i)).1 (ci (kQ.take i)).2 U H:=by rw[S,su];rfl
     refine wY ⟨plainId_quiet mm _,?_⟩;refine ih (i+1) 0 _ G N (dr (ci (kQ.take i)).1 vs U p) C M9 O (by rw[V];exact Q) hc M ?_ ?_ ?_ ?_
     .obtain⟨f0,f1⟩:=fp;refine⟨?_,f1⟩;rw[aK nd.symm]at f0 |-;exact f0
     .exact Qr.at λo e=>(L.2 it nd.symm).trans e
     .rw[V];exact om hz _ _
     .rw[E];exact hv.put (iv.mono M.bn)
end
@[simp] def ko:LD->OB
 |[.lst ds]=>(j0 ds).map λG=>(.dk (ci G).1 (ci G).2,false)
 |_=>none
theorem OL:bootBuiltins "dict" = some (.type "dict"):=Z9
section
variable {X:Cx}
theorem OM (T:X.calm=true):cn X (.type "dict") (Di X.K ko):=by
 intro ag s σ H xs us Q I r h;obtain⟨B,w,d0,bb,g,x,O,q⟩:=h;cases x with
 |nil=>simp[ko]at O
 |cons i1 i2=>
  cases i2 with
  |cons _ _=>cases i1<;>simp[ko]at O
  |nil=>
   cases i1<;>try (simp[ko]at O;done)
   rename_i l ws ds hl y;simp only[ko]at O;obtain⟨U,hp,O⟩:=oY O;cases O
   obtain⟨u,rfl,z⟩:=ij r;cases z
   have i:X.A.handled=none:=I.ok.hd T;refine callType_codes (Q₁:=λobj M=>obj=.ref s.heap.objs.size/\M={ s with heap:=s.heap.push _ }) PySem.F.kt_called_dict (PySem.F.kt_typeCall_dict_1 _) PySem.F.entry_dict_init (kt_code_dict_new _ ⟨rfl,rfl⟩) ?_;rintro obj M ⟨rfl,rfl⟩;have j :=I.laid (t':=s.toks) (λb o e=>vZ _ e) (vT _) (zv s.heap I.big);have k:H s.heap.objs.size=none:=I.fresh;have m:Shared.TypeIs { s with heap:=s.heap.push { cls:=.type "dict",data:=.dict #[] } } (.ref s.heap.objs.size) "dict":=⟨_,vY _ rfl,rfl⟩;refine⟨m,PySem.F.args_dict_init_2 _ _,?_⟩;unfold Builtin.«dict.__init__»;refine wX ?_;unfold Builtin.Dict.selfAndRest;refine wX (wpAny_notOrdered_dict m ?_);refine wY ?_;show wpAny _ _ (Builtin.Dict.updateFrom "dict.__init__" s.heap.objs.size (.ref l) [] .none) _ _ _;unfold Builtin.Dict.updateFrom;have C:bc B (upd H s.heap.objs.size (.dK [] { cls:=.type "dict",data:=.dict #[] })):=g.trans (ly k);obtain⟨its,R,n,S⟩:=j.list (C.seq hl);have pl:=n.isList;obtain⟨p,D,G,cl,t,dl⟩:=n;have a:Shared.TypeIs _ (.ref l) "list":=⟨p,G,cl⟩;refine wX (wpAny_typeOf a ?_);rw[if_pos V9];obtain⟨oc,od,V,os⟩:=p;simp only at cl t dl;subst cl t dl;refine wX (Fz G (by exact i) λh' tk hk=>?_);dsimp only[Option.isNone_none];rw[if_pos rfl];have c :=j.kept (t':=tk) hk;refine wX (wpAny_rule ?_);refine wX (wpAny_pyIter_list (items:=its.toArray) ⟨_,hk _ _ G,rfl,D,rfl⟩ ?_);have E:Inv X ag σ _ { s with heap:=h'.push { cls:=.type "list_iterator",data:=.fields #[.ref l,.int 0 0] },toks:=tk }:=c.kept (t':=tk) λb o e=>vZ _ e;have ld:s.heap.objs.size<h'.objs.size:=vX (hk _ _ (vY _ rfl));have J:l<h'.objs.size:=vX (hk _ _ G);refine wY ⟨plainId_quiet mm _,Cr (A:=X.A.in1) (B:=B) (H0:=H) (l:=l) (d:=s.heap.objs.size) (it:=h'.objs.size) i (vS J) (vS ld) hl y hp (λW N vs ob s' L v f hz hv=>?_) _ 0 0 _ H B [] _ rfl (uN _) E k (Ext.refl g) (c.fpOk (vT _) (c.hok.fresh (vT _))) ⟨_,vY _ rfl,rfl,rfl⟩ rfl .nil⟩;refine⟨rfl,.ref s.heap.objs.size,_,L,rfl,?_⟩;have P:=f.trans (Ext.laid (o:=.dK ((ci U).1.zip vs) ob) f.nh v);exact q _ _ _ P (.dk a8 hz (hv.mono (Ext.laid (o:=.dK ((ci U).1.zip vs) ob) f.nh v).bn)) N9
end
theorem Qm (h:n+40<cLine):n+1<cLine:=M9
def kq:LD->Option LK
 |[]=>some []
 |d::ds=>(mD d).bind λk=>(kq ds).map (k :: ·)
theorem Cs {K:Frag}{B:Hp}:∀ {vs:LV}{ds:LD}{ks:LK},IsL K B vs ds->kq ds=some ks->vs=ks.map kV
 |_,_,ks,.nil,e=>by simp[kq]at e;subst e;rfl
 |_,_,ks,.cons i is,e=>by
  obtain⟨k,h1,e⟩:=oX e;obtain⟨r,h2,rfl⟩:=oY e;rw[wL i h1,Cs is h2];rfl
@[simp] def Im (M:FE)(fa:FA):FE:=λρ=>(M ρ).bind λx=>(fa ρ).bind λds=>match x.1 with
 |.dt G vs=>if ds.length<=sizeLine then (kq ds).map λk=>((cA G vs k).getD .non,false)else none
 |_=>none
section
variable {X:Cx}{o:Expr}{es:QD}{pos:Pos}
theorem Io {di cj M:Pos}{O:Nat}{f:FE}{fa:FA}(hu:X.A.units+1<cLine)(g:JE X o f)(ha:JA X es fa)(m:M1 X o "get" di (.Tuple es O M) cj):JE X (.Call (.Attribute o "get" di) [.Tuple es O M] [] cj) (Im f fa):=by
 refine PE.to (zw hu g (BF ha) m) λσ H Q q=>?_;obtain⟨B,ρ,d,bb,i,r,G,q⟩:=q;obtain⟨x,ex,G⟩:=oX G;obtain⟨ds,j,G⟩:=oX G;refine⟨B,ρ,x.1,x.2,i,r,ex,λv s N1 O i1 t=>?_⟩;obtain⟨xd,u⟩:=x;cases i1 with
 |@dt a ks vs w h hl hs=>
  simp only at G;split at G
  .rename_i hz;obtain⟨k,hk,G⟩:=oY G;cases G
   refine⟨a,rfl,.inr ⟨_,.inl (O.nh _ _ h)⟩,N1,ρ,ds,O.nh,r.mono O.bn,j,λus H2 N2 U i2=>?_⟩;have hv:=Cs i2 hk;have b:us.length<=sizeLine:=by rw[i2.length];exact hz
   refine⟨b,λp hp=>?_⟩;have T:=Ext.laid (o:=.tup us) U.nh hp;have c :=U.bn _ _ h;refine⟨lq _ k,.inr ⟨_,k,p,.inl (T.nh _ _ (T.bn _ _ c)),rfl,by rw[a8,hv],rfl⟩,?_⟩;have l:=(hs.mono U.bn).mono T.bn;rcases yA k hl l with⟨v,d',e,e2,n⟩|⟨e,e2⟩
   .rw[e];rw[e2]at q;exact(q.into ((O.trans U).trans T)).one T.nh n
   .rw[e];rw[e2]at q;exact(q.into ((O.trans U).trans T)).one T.nh .non
  .cases G
 |_=>simp at G
end
section
variable {K:Frag}{E:Ends}{σ:St}{H:Hp}
def wO (i:Nat)(M:FA)(O:FE):FS:=λρ=>match ρ[i]? with
 |some (some (.dt ks vs,true))=>(O ρ).bind λv=>(M ρ).bind λkd=>(kq kd).bind λG=>if bC v.1=true/\ks.length<sizeLine/\kd.length<=sizeLine then some (.nx (ρ.set i (some (.dt (eY ks G) (dr ks vs G v.1),true))))else none
 |_=>none
theorem Ip {i:Nat}{M:FA}{O:FE}(q:pb K (wO i M O) E σ H):Dg (qH i) (QS (Qf K M)) (tD K O) E σ H:=by
 obtain⟨B0,H0,ρ,r,⟨N,s⟩,e,p⟩:=q;unfold wO at e;split at e
 .rename_i ks ds ei;obtain⟨v,ev,e⟩:=oX e;obtain⟨kd,ek,e⟩:=oX e;obtain⟨b,hk,e⟩:=oX e;split at e
  .rename_i hx;cases e
   refine⟨N,ρ,v.1,v.2,s.ext.nh,s.rep,ev,λd f N1 c i1 _=>?_⟩;have s1:=s.grow c;obtain⟨a,o,h1,h2,h3,h4⟩:=s1.ow i _ ei;refine⟨.ref a,h1,N1,ρ,kd,s1.ext.nh,s1.rep,ek,λus H2 N2 T i2=>?_⟩;have s2:=s1.grow T;have hv:=Cs i2 hk;refine⟨by rw[i2.length];exact hx.2.2,λpp hp=>?_⟩;have U:=Ext.laid (o:=.tup us) s2.ext.nh hp;have G:=s2.grow U;obtain⟨g,o',k1,k2,k3,k4⟩:=G.ow i _ ei;rw[h1]at k1;cases k1
   cases k4 with
   |@dt ks vs ds hl h5=>
    refine⟨a,rfl,.inr ⟨_,b,pp,G.ext.nh _ _ k2,rfl,by rw[a8,hv],?_,?_⟩⟩
    .rw[length_zip];lia
    .rw[qU hl];exact p σ _ ⟨_,G.writeB ei h1 (.dt (om hl _ _) (h5.put (G.flat ((i1.mono T.bn).mono U.bn) hx.1)))⟩
  simp_all
 simp_all
end
section
variable {X:Cx}{pos:Pos}{e:Expr}{es:QD}
theorem Lu (hu:X.A.units+1<cLine)(hv:JE X e T)(hk:JA X es U)(O:X.N[i]? = some y:=by rfl)(G:Nw X.env.scope y:=by first|exact Or.inl rfl|exact Or.inr (Or.inl rfl)|exact Or.inr (Or.inr rfl))(hd:(y == ("__debug__" : Str))=false:=by decide)
  (M:(y == ("__classdict__" : Str))=false:=by decide) (hs:swapsWith e (some (.Subscript (.Name y py) (.Tuple es x1 PD) pt)) pos.line X.env=pure false:=by rfl):JS X (.Assign [.Subscript (.Name y py) (.Tuple es x1 PD) pt] e pos) (wO i U T) :=
 PS.to (xY hu (rh O G hd M) (BF hk) hv hs) λ_ _ _ q=>Ip q
end
end DL
namespace L2
open PySem PySem.Spec PyProof.Rows
noncomputable def Uz (a:Addr)(aR:List (ft×V))(ob:Obj):It:=⟨λi H=>H a=some (.dK aR ob)/\i<aR.length,λi H x H'=>H'=H/\∃k,aR[i]? = some (k,x),λi H=>H a=some (.dK aR ob)/\aR.length<=i⟩
theorem KV.get {aR:List (ft×V)}{vs:List (ft×Value)}(r:KV aR vs){i:Nat}{k:ft}{x:V}(h:aR[i]? = some (k,x)):∃u,vs[i]? = some (k,u)/\aX x u:=by
 induction r generalizing i with
 |nil=>simp at h
 |@cons p q ps O hq t ih=>
  cases i with
  |zero=>
   cases (show p=(k,x)from vK h)
   obtain⟨G,M⟩:=q;exact⟨M,by rw[show k=G from hq.1];rfl,hq.2⟩
  |succ i=>exact ih h
theorem RF (h:(dm P w).is k u=true):aX (kV k) u:=by
 cases k with
 |inl i=>exact Value.isInt_shape h
 |inr z=>exact Value.isStrOf_shape h
section
variable {P:Program}{w:World}{H:Hp}{h:Heap}{a:Addr}
theorem sx (ok:mw P w H h)(e:H a=some (.dK aR ob))(hd:ob.data=.dict es O):∃vs,KV aR vs/\h.DictAt (dm P w) a vs O:=by
 obtain⟨_,_,vs,r,o,G,M,h1,h2,h3,h4⟩:=ro ok e;rw[BN ok e]at h1;cases h1
 rw[hd]at h3;cases h3
 exact⟨vs,r,ob,es,BN ok e,h2,hd,h4⟩
theorem yC (ok:mw P w H h)(e:H a=some (.dK aR ob)):∃es G,ob.data=.dict es G:=by
 obtain⟨_,_,vs,r,o,M,O,h1,h2,h3,h4⟩:=ro ok e;rw[BN ok e]at h1;grind
end
theorem F3 {P:Program}{w:World}{K:Frag}{tg:Expr}(a it:Addr)(aR:List (ft×V))(ob:Obj){es:Array DictEntry}{g:Nat}(hd:ob.data=.dict es g):Turn P w K tg (Uz a aR ob) [it] it (λi h=>h.IsValIter it a i aR.length g) where
 mem:=N9
 obj:=λi h st b hb=>by
  have e:b=it:=by simpa using hb
  subst e;obtain⟨o,e,c,d⟩:=st;simp_all
 keep:=λi h h' st k=>st.at λo e=>k it N9 o e
 item:=by
  intro X O hw T hc i ag s σ H E I hf st U;subst O hw T;obtain⟨f,M⟩:=U;obtain⟨vs,r,m⟩:=sx I.hok f hd;obtain⟨f0,f1,f2,f3,f4,f5⟩:=hf it N9;have hl:vs.length=aR.length:=(Paired.length r).symm;obtain⟨u,hu,ru⟩:=r.get (k:=aR[i].1) (x:=aR[i].2) (vU M);refine wpAny_pyNext_values_item (by rw[hl];exact st) m hu λh' G j=>?_;rw[hl]at G;have l :=I.turned (t':=s.toks) (λb o hb e=>(j.2 b hb).trans e) f0 f1 f3 f4 f5;obtain⟨o,e,c,d⟩:=id G;exact⟨u,rfl,v0 (s:={ s with heap:=h' }) e c d V9 ⟨aR[i].2,H,l,ru,⟨rfl,aR[i].1,vU M⟩,G,λb hb=>(hf b hb).1⟩⟩
 done:=by
  intro X O hw T hc i ag s σ H E I hf st U;subst O hw T;obtain⟨f,p⟩:=U;obtain⟨vs,r,m⟩:=sx I.hok f hd;obtain⟨f0,f1,f2,f3,f4,f5⟩:=hf it N9;have hl:vs.length=aR.length:=(Paired.length r).symm;exact wpAny_pyNext_values_end (I.ok.hd hc) (by rw[hl];exact st) m (getElem?_eq_none M9) λh' n=>⟨rfl,I.turned (t':=s.toks) (λb o hb e=>n b o hb e) f0 f1 f3 f4 f5⟩
 self:=λ_ _ _ _ _ st h=>wpAny_pyIter_valiter st h
section
variable {X:Cx}{tg:Expr}
def RG (M:TE):TI:=λσ H R=>M σ H λx G=>∃a aR ob,x=.ref a/\G a=some (.dK aR ob)/\R (Uz a aR ob) G
theorem Lv {o:Expr}{d:TE}{di cj:Pos}(i:PE X o d)(G:attributeBase o "values" X.env (eval o X.env)=eval o X.env:=by rfl)(M:(di.endLine == cj.line)=true:=by rfl):PI X tg (.Call (.Attribute o "values" di) [] [] cj) (RG d):=by
 intro ag s σ H R I h;refine wpAny_Call_method0_late G M (c7 (i ag s σ H _ I h) λv s1 ⟨x,f,O,g,a,aR,ob,ex,U,q⟩=>?_);subst ex;obtain⟨h1,h2⟩:=BM O g (T:="dict") (.inr (.inr (.inl ⟨rfl,.inl ⟨aR,ob,U⟩⟩)));cases g
 obtain⟨es,j,hd⟩:=yC O.hok U;obtain⟨vs,r,m⟩:=sx O.hok U hd;have hl :=(Paired.length r).symm;refine⟨"dict","dict.values",plainAttrs_dict,PySem.F.slot_dict_values,PySem.F.type_dict_values,h1,h2,Calls.callWith_builtin rfl (PySem.evalArgs_none ?_)⟩;refine call_meetsIn PySem.F.slot_dict_values h1 PySem.F.entry_dict_values (PySem.F.args_dict_values_1 _) (meets_dict_values _ a (ro O.hok U).2.1) ⟨⟨vs,m.dictOf⟩,?_⟩;have c:Inv X ag σ f { s1 with heap:=s1.heap.push { cls:=.type "dict_values",data:=.fields #[.ref a] } }:=O.kept  λb o e=>vZ _ e;refine wpAny_pyIter_values  ⟨_,vY _ rfl,rfl,rfl⟩ (m.keep λb o e=>vZ _ e) ?_;rw[hl];refine⟨(s1.heap.push _).objs.size,[(s1.heap.push _).objs.size],_,_,f,rfl,c.kept  λb o e=>vZ _ e,F3 a _ aR ob hd,⟨_,vY _ rfl,rfl,rfl⟩,λb hb=>?_,q⟩;have e:b=(s1.heap.push { cls:=.type "dict_values",data:=.fields #[.ref a] }).objs.size:=by simpa using hb
 subst e;exact c.fpOk (vT _) (c.hok.fresh (vT _))
end
end L2
namespace DL
open PySem PySem.Spec PySem.W PyProof.Rows L2
noncomputable def kD:ft->D
 |.inl i=>.int i
 |.inr z=>.str z
theorem RH {K:Frag}{B:Hp}(k:ft):Is K B (kV k) (kD k):=by
 cases k with
 |inl i=>exact .int i
 |inr z=>exact .str z
section
variable {K:Frag}{B:Hp}
theorem Lx {a:Addr}{ks:LK}{vs:LV}{ds:LD}{ob:Obj}(h:B a=some (.dK (ks.zip vs) ob))(hl:ks.length=vs.length)(hs:IsL K B vs ds):pq K (Uz a (ks.zip vs) ob) B ds:=by
 intro i H s;have hz:(ks.zip vs).length=vs.length:=by rw[length_zip];lia
 refine⟨λd ed=>?_,λG=>⟨s _ _ h,by rw[hz,hs.length];exact G⟩⟩;obtain⟨v,ev,iv⟩:=hs.get ed;have M :=(vV ev).1;refine⟨⟨s _ _ h,by rw[hz];exact M⟩,λy O hy=>?_⟩;obtain⟨rfl,k,e⟩:=hy;have:=(getElem?_zip_eq_some.mp e).2;rw[ev]at this;cases this
 exact⟨B,.refl s,iv⟩
end
section
variable {X:Cx}{e:Expr}{tg:Expr}
@[simp] noncomputable def sy (f:FE):FA:=λρ=>(f ρ).bind λx=>match x.1 with|.dk _ ds=>some ds|_=>none
theorem DI (h:JE X e f)(G:attributeBase e "values" X.env (eval e X.env)=eval e X.env:=by rfl)(M:(di.endLine == cj.line)=true:=by rfl):JI X tg (.Call (.Attribute e "values" di) [] [] cj) (sy f):=by
 intro ag s σ H R I q;obtain⟨B,ρ,ds,T,r,U,q⟩:=q;obtain⟨⟨xd,c⟩,ex,es⟩:=oX U;cases xd<;>try (cases es;done)
 cases es
 refine Lv h G M _ s σ H R I ⟨B,ρ,_,_,T,r,ex,λv b N1 O i1 _=>?_⟩;cases i1 with
 |@dk a ks vs ds ob hd hl hs=>exact⟨a,_,ob,rfl,O.nh _ _ hd,q _ b N1 O (Lx hd hl hs)⟩
end
end DL
namespace DL
open PySem PySem.Spec PyProof.Rows L2
@[simp] abbrev cP (i:Nat)(j:Int):FE:=f2 bN (aj i) (fC (.int j))
theorem bd (F:Fn X.prog X.w X.K X.mg X.base k x f)(O:eU j X.A)(ha:JA X (e::es) fa)(hj:k<=j:=by decide)(T:Gl X x:=by rfl)(G:(x == ("__debug__" : Str))=false:=by decide)(he:starEach (e::es) X.env=(false,eval e X.env)::starEach es X.env:=by rfl)(M:(backTo U (starEach es X.env)).any (·.1)=false:=by rfl):JE X (.Call (.Name x p) (e::es) [] U) (fA f fa):=Dl F (O.mono hj) ha T G he M
theorem RI (h1:∀y∈scope.names,y.2≠.cell:=by decide +kernel)(h2:scope.kind=.function:=by rfl)(h3:∀y∈scope.names,y.2=.local->scope.names.lookup y.1=some .local:=by decide +kernel)(G:(scope.names.all λy=>!(y.2 == NameKind.free) || (X.env.cells.lookup y.1).isSome)=true:=by rfl):CompSc X scope (g9 scope.names X.env.cells []):=Oo h1 h2 h3 G
theorem We (h1:N'[j]? = some x)(h2:X.N[i]? = some x)(t:oW X N' scope (g9 scope.names X.env.cells []) (j+1) r)(h3:X.env.kindOf x=some .cell\/X.env.kindOf x=some .free:=by exact Or.inl rfl)(h4:(relabel scope X.env).names.lookup x=some .cell\/(relabel scope X.env).names.lookup x=some .free:=by exact Or.inl rfl)(hf:(x,NameKind.free)∈scope.names:=by decide +kernel)(hc:(X.env.cells.lookup x).isSome=true:=by rfl):oW X N' scope (g9 scope.names X.env.cells []) j (i::r):=.cons h1 h2 h3 h4 (nQ hf hc) t
end DL
namespace DL
open PySem PySem.Spec PySem.W PyProof.Rows L2
noncomputable def sA:At->D
 |.i n=>.int n
 |.s z=>.str z
section
variable {prog:Program}{w:World}{A:Around}{E:QV}{s:Shared}
theorem RJ (hx:B7 x u)(hy:B7 y v):SeqAt.EqAt A s u v (fu (sA x) (sA y)):=by
 cases x with
 |i a=>
  obtain⟨t,rfl⟩:=hx;cases y with
  |i c=>obtain⟨t',rfl⟩:=hy;exact SeqAt.EqAt.int_int _ _ _ _
  |s c=>obtain⟨t',rfl⟩:=hy;simp_all[sA,SeqAt.EqAt.int_str]
 |s a=>
  obtain⟨t,rfl⟩:=hx;cases y with
  |i c=>obtain⟨t',rfl⟩:=hy;simp_all[sA,SeqAt.EqAt.str_int]
  |s c=>obtain⟨t',rfl⟩:=hy;exact SeqAt.EqAt.str_str _ _ _ _
theorem DJ:∀ {xs ys:List At}{vs:LU},Paired B7 xs vs->Paired B7 ys vs->xs=ys
 |_,_,_,.nil,.nil=>rfl
 |x::xs,y::ys,_,.cons p ps,.cons q G=>by
  rw[DJ ps G];cases x with
  |i a=>
   obtain⟨t,rfl⟩:=p;cases y with
   |i c=>obtain⟨t',e⟩:=q;cases e;rfl
   |s c=>obtain⟨t',e⟩:=q;cases e
  |s a=>
   obtain⟨t,rfl⟩:=p;cases y with
   |i c=>obtain⟨t',e⟩:=q;cases e
   |s c=>obtain⟨t',e⟩:=q;cases e;rfl
theorem ON (x y:At):fu (sA x) (sA y)=true↔x=y:=by
 cases x<;>cases y<;>simp[sA]
theorem qV:∀xs ys:List At,ls (xs.map sA) (ys.map sA)=true↔xs=ys
 |[],[]=>by simp
 |[],_::_=>by simp
 |_::_,[]=>by simp
 |x::xs,y::ys=>by
  rw[uY,uY,ls,vC,ON,qV xs ys];simp
theorem OO (hx:gh s.heap xs x)(hy:gh s.heap ys y)(hu:A.units<cLine):SeqAt.EqAt A s x y (ls (xs.map sA) (ys.map sA)):=by
 obtain⟨a,o,its,n,rfl,e,hc,hd,r⟩:=hx;obtain⟨b,o',G,m,rfl,M,O,T,d⟩:=hy;by_cases U:a=b
 .grind[DJ,qV,SeqAt.EqAt.same]
 .have f:s.heap.IsTuple a its:=⟨o,e,hc,n,hd⟩;have g:s.heap.IsTuple b G:=⟨o',M,O,m,T⟩;have l1:xs.length=its.size:=by exact fO r
  have l2:ys.length=G.size:=by exact fO d
  have he:∀j (h1:j<its.size) (h2:j<G.size),SeqAt.EqAt A.in1 s its[j] G[j] (fu ((xs.map sA).getD j .non) ((ys.map sA).getD j .non)):=λj h1 h2=>by
   have p:=fQ (.i 0) Value.none r (i:=j) M9;have q:=fQ (.i 0) Value.none d (i:=j) M9;have c:its.toList.getD j Value.none=its[j]:=by simp_all
   have e2:G.toList.getD j Value.none=G[j]:=by simp_all
   rw[c]at p;rw[e2]at q;have h:(xs.map sA).getD j .non=sA (xs.getD j (.i 0)):=by simp_all
   have k:(ys.map sA).getD j .non=sA (ys.getD j (.i 0)):=by simp_all
   rw[h,k];exact RJ p q
  have rc:=SeqAt.RcAt.tuples f g hu he;have l:((List.range (min its.size G.size)).all (λj=>fu ((xs.map sA).getD j .non) ((ys.map sA).getD j .non)) && its.size == G.size)=ls (xs.map sA) (ys.map sA):=by
   rw[<-l1,<-l2];by_cases hl:xs.length=ys.length
   .rw[<-hl,Nat.min_self,beq_self_eq_true,Bool.and_true];have:=jZ _ (xs:=xs.map sA) (ys:=ys.map sA) (by simpa using hl) λj x y c e2=>yh j x y c e2;rwa [vI]at this
   .rw[yg (by simpa using hl),beq_eq_false_iff_ne.mpr hl,Bool.and_false]
  rw[l]at rc;exact SeqAt.EqAt.of_refs U rc
theorem F4 (xs:List At):bv xs xs=some false:=by
 induction xs with
 |nil=>rfl
 |cons x xs ih=>cases x<;>rw[bv,if_pos rfl,ih]
theorem Iq (hx:gh s.heap xs x)(hy:gh s.heap ys y)(h:bv (.i n::xs) (.i m::ys)=some b)(hu:A.units<cLine)(q:Q b s)(hn:B7 (.i n) u)(hm:B7 (.i m) v):KatLex prog w A true false Q [(u,v),(x,y)] 0 s:=by
 obtain⟨t,rfl⟩:=hn;obtain⟨t',rfl⟩:=hm;refine kat_cons (wpAny_eqBool_int ?_);rw[bv]at h;by_cases e:n=m
 .rw[if_pos e]at h;rw[show(n == m)=true by simp[e]];refine kat_yes (kat_cons (OO hx hy hu _ _ _ _ ?_));by_cases e2:xs=ys
  .grind[qV,F4,kat_yes,kat_nil]
  .rw[Bool.eq_false_iff.mpr λz=>e2 ((qV xs ys).mp z)];refine kat_no (kat_one _ _ ?_);exact HV  hx hy h hu (by first|exact q|exact⟨b,rfl,q⟩)
 .rw[if_neg e]at h;cases h
  rw[show(n == m)=false by simp[e]];exact kat_no (oneLt_int q)
end
def F5 (h:Heap)(xs:List At)(v:Value):Prop:=∃n k a o its m u x,xs=.i n::k/\v=.ref a/\h.get? a=some o/\o.cls=.type "tuple"/\o.data=.seq its m/\its.toList=[u,x]/\B7 (.i n) u/\gh h k x
section
variable {prog:Program}{w:World}{A:Around}{E:QV}{s:Shared}
theorem Ly (hx:F5 s.heap xs x)(hy:F5 s.heap ys y)(h:bv xs ys=some b)(hu:A.units<cLine)(q:Q b s):wpAny (model prog w) A (keyLt' (tuples' true) x y) Q E s:=by
 obtain⟨n,k,a,o,its,m,u,d,rfl,rfl,U,_,hd,ei,an,c⟩:=hx;obtain⟨e,k',f,o',its',g,u',i,rfl,rfl,M,_,O,G,T,ty⟩:=hy;refine kat_lt U hd M O ?_;rw[ei,G];have hf:decide (its.size<its'.size)=false:=by
  rw[<-vG,<-vG,ei,G];rfl
 rw[hf];exact Iq c ty h hu q an T
theorem qg:∀ {ks:List (List At)}{vs:LU},Paired (F5 h) ks vs->∃fs,KatTups h vs fs/\fs.length=ks.length/\∀v∈fs,∃n,B7 (.i n) v
 |_,_,.nil=>⟨[],trivial,rfl,N9⟩
 |k::ks,_,.cons x t=>by
  obtain⟨fs,h1,h2,h3⟩:=qg t;obtain⟨n,k,a,o,its,m,u,M,rfl,rfl,G,hc,hd,ei,an,_⟩:=x;refine⟨u::fs,KatTups.cons G hc hd (by rw[<-Array.getElem?_toList,ei];rfl) h1,by simp[h2],λv hv=>?_⟩;grind
theorem F6 (hp:Paired (F5 s.heap) ks vs)(hn:0<ks.length)(q:Q (tuples' true) s):wpAny (model prog w) A (keyKind' vs.toArray) Q E s:=by
 obtain⟨fs,h1,h2,h3⟩:=qg hp;refine kat_kind (T:=.type "int") h1 M9 (λv hv=>?_) V9 q;obtain⟨n,t,rfl⟩:=h3 v hv;exact .now
theorem Ir (hc:dj ks=true)(hu:A.units<cLine)(hp:Paired (F5 s.heap) ks vs):∀(i j:Nat)(C:Bool->Shared->Prop)(s1:Shared),i<ks.length->j<ks.length->s1=s->(∀s',s'=s->C (rX (B8 ks) i j) s')->kas_ask prog w A (tuples' true) vs i j C s1:=by
 intro i j C s1 hi hj e M;subst e;have G:ks.getD i []∈ks:=by simp_all
 have O:ks.getD j []∈ks:=by simp_all
 refine Ly (fQ [] _ hp hi) (fQ [] _ hp hj) (iD hc G O) hu ?_;have:=M s1 rfl;unfold rX B8 at this;rw[Am (uS ⟨_,G,rfl⟩)]at this;exact this
end
def OP:D->Option (List At)
 |.tup [.int n,.tup es]=>(km es).map (.i n :: ·)
 |_=>none
def mE:LD->Option (List (List At))
 |[]=>some []
 |d::ds=>(OP d).bind λa=>(mE ds).map (a :: ·)
theorem wP:∀ {ds:LD}{ks:List (List At)},mE ds=some ks->ks.length=ds.length
 |[],_,h=>by simp_all[mE]
 |d::ds,_,h=>by
  obtain⟨a,h1,h⟩:=oX h;obtain⟨r,h2,h⟩:=oY h;subst h;simp[wP h2]
theorem A1 (I:Inv X ag σ H s):∀ {ys:LV}{ds:LD}{ks:List (List At)}{its:LU},bg ys its->IsL X.K H ys ds->mE ds=some ks->Paired (F5 s.heap) ks its
 |_,_,_,_,.nil,.nil,h=>by cases h;exact .nil
 |_,_,_,_,.cons r T,.cons i U,h=>by
  obtain⟨a,h1,h⟩:=oX h;obtain⟨t,h2,h⟩:=oY h;subst h;refine .cons ?_ (A1 I T U h2);unfold OP at h1;split at h1
  .rename_i n es;obtain⟨k,M,rfl⟩:=oY h1;cases i with
   |tup hq hl=>
    cases r
    obtain⟨its',G,⟨o,b,hc,m,hd⟩,_⟩:=I.tuple hq;cases hl with
    |cons i1 hl=>
     cases hl with
     |cons i2 hl=>
      cases hl
      cases G with
      |cons c G=>
       cases G with
       |cons d G=>
        cases G
        cases i1
        have hk:ee [D.tup es]=some [k]:=by show(km es).bind _=_;rw[M];rfl
        have O:=oh I (.cons d .nil) (.cons i2 .nil) hk;cases O with
        |cons O _=>exact⟨n,k,_,o,_,m,_,_,rfl,rfl,b,hc,hd,rfl,c,O⟩
  simp_all
theorem Lz (hu:A.units<cLine):KK X A mE λ_=>true:=⟨wP,λI _ _ _ _ r i e _ hc=>have hp:=A1 I r i e;⟨λhn _ _ q=>F6 hp hn q,Ir hc hu hp⟩⟩
theorem Iu (hu:X.A.units+40<cLine):KK X X.A.in1.in1 mE λ_=>true:=Lz M9
@[simp] abbrev Ct:FE->(Env->D->Option D)->FE:=y8 mE λ_=>true
end DL
namespace DL
open PySem PySem.Spec PyProof.Rows L2
def RK:Nat->(LU->Prop)->Prop
 |0,P=>P []
 |n+1,P=>∀a,RK n λl=>P (a::l)
theorem Iv:∀n P,RK n P->∀us:LU,us.length=n->P us
 |0,_,h,[],_=>h
 |n+1,_,h,a::us,e=>Iv n _ (h a) us (Nat.succ.inj e)
section
variable {P:Program}{w:World}{K:Frag}{mg:SV}{base:Heap}
def KC (K:Frag)(mg:SV)(x:Str)(c:D):Prop:=∃u v,mg x=some u/\aX v u/\∀B,Is K B v c
def KD (w:World)(K:Frag)(mg:SV)(x:Str)(c:List (Str×D)):Prop:=∃d,mg x=some (.ref d)/\nW K w.params d c
theorem kc_of {x:Str}{c:D}{h:Heap}(X:K.In h)(G:h.Ns mainGlobals mg)(k:∃u v,nsIn K mainGlobals x=some (some u)/\aX v u/\∀B,Is K B v c):KC K mg x c:=let ⟨u,v,e,r⟩:=k;⟨u,v,mg_of X G e,r⟩
theorem kd_of {x:Str}{c:List (Str×D)}{h:Heap}(X:K.In h)(G:h.Ns mainGlobals mg)(k:∃d,nsIn K mainGlobals x=some (some (.ref d))/\nW K w.params d c):KD w K mg x c:=let ⟨d,e,r⟩:=k;⟨d,mg_of X G e,r⟩
theorem cB.fqL {x:Str}{st:Stmt}{k:Nat}{O:LD->OB}(F:cB K x st)(B:∃h,K.In h/\h.Ns mainGlobals mg)(g:FS)(N:LS)(n:Nat)
  (hb:∀ {f:Addr}{dv:Value}{A:Around}{outer:List PySem.Env}{s:Shared}{H:Hp}{E:XK},N.Nodup->eU k (A.deeper (envOfC x (aO st) s.heap.objs.size f dv))->(A.deeper (envOfC x (aO st) s.heap.objs.size f dv)).units+40<cLine->(∀c P,PySem.W.tabIn K x=some (c,P)->dv=.ref c)->wm (ph zi P w K mg base N x (aO st) f dv A outer s H E).nox (cc st) g)
  (S:FnScope N (N.take n) (aO st):=by refine⟨rfl,rfl,rfl,?_,rfl,?_,?_⟩<;>decide +kernel)
  (M:∀(kV doc pm:Value)(an:Option Addr)(dv ct:Value)(us:LU),us.length=(N.take n).length->bindArgs (fnOf x x (dZ st) (cc st) (aO st) .none kV doc pm an dv ct) ⟨us,[]⟩=pure ((N.take n).zip us):=by
   exact λ_ _ _ _ _ _=>Iv _ _ (by(repeat intro);rfl))
  (e:aC g (N.take n).length (N.length - (N.take n).length)=O:=by rfl):
  Fn P w K mg base (k+1) x O:=let ⟨_,X,G⟩:=B;e ▸ F.fnL X G S M λ_ _ _ _ _ _ _ hc T=>hb S.nd T (zK T) hc
theorem cB.fq {x:Str}{st:Stmt}{k:Nat}{M:LD->OB}(F:cB K x st)(B:∃h,K.In h/\h.Ns mainGlobals mg)(g:FS)(N:LS)(n:Nat)
  (hb:∀ {f:Addr}{dv:Value}{A:Around}{outer:List PySem.Env}{s:Shared}{H:Hp}{E:XK},N.Nodup->eU k (A.deeper (envOfC x (aO st) s.heap.objs.size f dv))->(A.deeper (envOfC x (aO st) s.heap.objs.size f dv)).units+40<cLine->wm (ph zi P w K mg base N x (aO st) f dv A outer s H E).nox (cc st) g)
  (S:FnScope N (N.take n) (aO st):=by refine⟨rfl,rfl,rfl,?_,rfl,?_,?_⟩<;>decide +kernel)
  (G:∀(kV doc pm:Value)(an:Option Addr)(dv ct:Value)(us:LU),us.length=(N.take n).length->bindArgs (fnOf x x (dZ st) (cc st) (aO st) .none kV doc pm an dv ct) ⟨us,[]⟩=pure ((N.take n).zip us):=by
   exact λ_ _ _ _ _ _=>Iv _ _ (by(repeat intro);rfl))
  (e:aC g (N.take n).length (N.length - (N.take n).length)=M:=by rfl):
  Fn P w K mg base (k+1) x M:=F.fqL B g N n (λn r u _=>hb n r u) S G e
end
section
variable {X:Cx}{x:Str}{pos:Pos}
theorem A2 (i:Nat)(G:X.N.Nodup)(hi:X.N[i]? = some x:=by rfl)(hx:Kb X.env.scope x:=by first|exact Or.inl rfl|exact Or.inr rfl)(hf:X.fn x=true\/X.env.scope.names.lookup x=some .local:=by first|exact .inl rfl|exact .inr rfl):PG X (.Name x pos) (lm i):=CU G hi hx hf
theorem Qn {fp}(i:Nat)(G:N'.Nodup:=by decide +kernel)(hi:(jy X N' scope cl C s H fp).N[i]? = some x:=by rfl)(hx:Kb (jy X N' scope cl C s H fp).env.scope x:=by exact Or.inl rfl)(hf:(jy X N' scope cl C s H fp).fn x=true\/(jy X N' scope cl C s H fp).env.scope.names.lookup x=some .local:=by first|exact .inl rfl|exact .inr rfl):PG (jy X N' scope cl C s H fp) (.Name x pos) (lm i):=CU G hi hx hf
theorem eZ (N':LS)(hi:JI X tg U fi)(hc:∀ {C s H fp},JC (jy X N' scope (g9 scope.names X.env.cells []) C s H fp) B2 fc)(he:∀ {C s H fp},JE (jy X N' scope (g9 scope.names X.env.cells []) C s H fp) B3 fe)
  (M:MG X.K nT uO g:=by first|exact z4 V9|exact MN V9) (O:∀ {C s H fp},PG (jy X N' scope (g9 scope.names X.env.cells []) C s H fp) tg g:=by intros;first|exact Qn 0|exact ri rfl (fw (Qn 0) (fw (Qn 1) nG)))
  (T:oW X N' scope (g9 scope.names X.env.cells []) nT cap:=by repeat first|exact .nil rfl|refine We rfl rfl ?_)
  (S:CompSc X scope (g9 scope.names X.env.cells []):=by exact RI) (G:X.calm=true:=by rfl)
  (hs:∀x,foldedSetIterable U X.env x=pure x:=by intro _;rfl):
  JE X (.ListComp B3 [⟨tg,U,B2,0⟩] scope pos) (bM fi nT cap uO fc fe):=KN G S T hi (λ_ _ _ _=>O) M (λ_ _ _ _=>hc) (λ_ _ _ _=>he) hs
theorem kU (N':LS)(U:X.N.Nodup)(hi:JI X tg gk fi)(hc:∀ {C s H fp},JC (jy X N' scope (g9 scope.names X.env.cells []) C s H fp) B2 fc)(he:∀ {C s H fp},JE (jy X N' scope (g9 scope.names X.env.cells []) C s H fp) B3 fe)
  (M:MG X.K nT uO g:=by first|exact z4 V9|exact MN V9) (a:∀ {C s H fp},PG (jy X N' scope (g9 scope.names X.env.cells []) C s H fp) tg g:=by intros;first|exact Qn 0|exact ri rfl (fw (Qn 0) (fw (Qn 1) nG)))
  (b:oW X N' scope (g9 scope.names X.env.cells []) nT cap:=by repeat first|exact .nil rfl|refine We rfl rfl ?_)
  (O:X.N[i]? = some y:=by rfl) (hy:X.env.kindOf y=some .local:=by rfl)
  (T:swapsWith (.ListComp B3 [⟨tg,gk,B2,0⟩] scope pos) (some (.Name y py)) spos.line X.env=pure true:=by rfl)
  (S:CompSc X scope (g9 scope.names X.env.cells []):=by exact RI) (G:X.calm=true:=by rfl)
  (hs:∀x,foldedSetIterable gk X.env x=pure x:=by intro _;rfl):
  JS X (.Assign [.Name y py] (.ListComp B3 [⟨tg,gk,B2,0⟩] scope pos) spos) (aU i (bM fi nT cap uO fc fe)):=KO G U O hy T S b hi (λ_ _ _ _=>a) M (λ_ _ _ _=>hc) (λ_ _ _ _=>he) hs
theorem oq (hi:JI X tg T fi)(G:PG X tg t)(M:KH X.K U t)(hb:wm X O g)(hp:PassesOwn (model X.prog X.w) X.A X.env X.xe:=by exact PassesOwn.never)(hc:X.calm=true:=by rfl)
  (hs:∀x,foldedSetIterable T X.env x=pure x:=by intro _;rfl):JS X (.For tg T O [] pos) (my fi U g):=Ov hp hc hi G M hb hs
theorem A3 (hi:PI X tg T (Tn X.K fi))(G:PG X tg t)(M:KH X.K U t)(hb:wm X O g)(hp:PassesOwn (model X.prog X.w) X.A X.env X.xe:=by exact PassesOwn.never)(hc:X.calm=true:=by rfl)
  (hs:∀x,foldedSetIterable T X.env x=pure x:=by intro _;rfl):JS X (.For tg T O [] pos) (m6 fi U g):=KU hp hc hi G M hb hs
end
end DL
namespace DL
open PySem PySem.Spec PySem.W PyProof.Rows L2
theorem sC:entryFor table "dict_itemiterator.__iter__" = some Builtin.«dict_keyiterator.__iter__»:=entryFor_alias (id':="dict_keyiterator.__iter__") T9 rfl Z9 T9
theorem yD (he:IsItemIter s.heap it d i n M ok O)(h:Q (.ref it) s):wpAny (model prog w) A (pyIter (.ref it)) Q E s:=by
 have G:s.TypeIs (.ref it) _:=⟨_,he,rfl⟩;refine wpAny_pyIter_slot G PySem.F.slot_dict_itemiterator_iter (wpAny_call_entry PySem.F.slot_dict_itemiterator_iter G sC ?_ (PySem.F.args_dict_itemiterator_iter_1 _));exact wY ⟨_,rfl,"dict_itemiterator",_,G,PySem.F.slot_dict_itemiterator_next.lookup,h⟩
noncomputable def U0 (a:Addr)(aR:List (ft×V))(ob:Obj):It:=⟨λi H=>H a=some (.dK aR ob)/\i<aR.length,λi H y H'=>∃T k v,y=.ref T/\H T=none/\H'=upd H T (.tup [kV k,v])/\aR[i]? = some (k,v),λi H=>H a=some (.dK aR ob)/\aR.length<=i⟩
theorem Cu {P:Program}{w:World}{K:Frag}{es:QD}{n:Nat}{pt:Pos}(a it:Addr)(aR:List (ft×V))(ob:Obj){ds:Array DictEntry}{j:Nat}(hd:ob.data=.dict ds j):Turn P w K (.Tuple es n pt) (U0 a aR ob) [it] it (λi h=>∃ok G,IsItemIter h it a i aR.length j ok G) where
 mem:=N9
 obj:=λi h st b hb=>by
  grind
 keep:=λi h h' st k=>let ⟨ok,G,e⟩:=st;⟨ok,G,k it N9 _ e⟩
 item:=by
  intro X U hw c hc i ag s σ H E I hf st d;subst U hw c;obtain⟨ok,G,he⟩:=st;obtain⟨f,M⟩:=d;obtain⟨vs,r,m⟩:=sx I.hok f hd;have hl :=(Paired.length r).symm;obtain⟨u,hu,ru⟩:=r.get (k:=aR[i].1) (x:=aR[i].2) (vU M);have fresh :=I.hok.fresh (vT _);have p :=vS (vX he);refine wpAny_pyNext_items_item (by rw[hl];exact he) m hu λg h' O l t hsz hk=>?_;rw[hl]at l;refine⟨_,rfl,wpAny_letOwnedTupleGo_items  l λh2 v s2=>?_⟩;have T:Heap.SameBut it h' h2:=s2;have y:∀b o,b∉[it]->s.heap.get? b=some o->h2.get? b=some o:=λb o hb q=>T.extBut _ _ (λz=>hb (by simp[z])) (hk b o (λz=>hb (by simp[z])) q);have new:bP X.prog X.w (upd H s.heap.objs.size (.tup [kV aR[i].1,aR[i].2])) h2 s.heap.objs.size (.tup _):=⟨by show 2<=sizeLine;decide,[g,u],.cons (RF O) (.cons ru .nil),⟨_,T.extBut _ _ p.symm t,rfl,_,rfl⟩⟩;refine⟨.ref s.heap.objs.size,upd H s.heap.objs.size _,Dz (s:=s) (t':=s.toks) I hf y (vT _) new,rfl,⟨_,aR[i].1,aR[i].2,rfl,fresh,rfl,vU M⟩,⟨_,_,v⟩,λb hb=>?_⟩;have A:b≠s.heap.objs.size:=by
   simp_all
  rw[aK A];exact(hf b hb).1
 done:=by
  intro X U hw c hc i ag s σ H E I hf st d;subst U hw c;obtain⟨ok,G,he⟩:=st;obtain⟨f,B⟩:=d;obtain⟨vs,r,m⟩:=sx I.hok f hd;have hl :=(Paired.length r).symm;exact wpAny_pyNext_items_end (I.ok.hd hc) (by rw[hl];exact he) m (getElem?_eq_none M9) λh' hk=>⟨rfl,mh (t':=s.toks) I hf λb o hb q=>hk b o (λz=>hb (by simp[z])) q⟩
 self:=λ_ _ _ _ _ st h=>let ⟨_,_,he⟩:=st;yD he h
section
variable {X:Cx}{es:QD}{kt:Nat}{pt:Pos}{e:Expr}
def U1 (M:TE):TI:=λσ H R=>M σ H λx G=>∃a aR ob,x=.ref a/\G a=some (.dK aR ob)/\R (U0 a aR ob) G
theorem Iw {o:Expr}{c:TE}{di cj:Pos}(g:PE X o c)(G:attributeBase o "items" X.env (eval o X.env)=eval o X.env:=by rfl)(M:(di.endLine == cj.line)=true:=by rfl):PI X (.Tuple es kt pt) (.Call (.Attribute o "items" di) [] [] cj) (U1 c):=by
 intro ag s σ H R I h;refine wpAny_Call_method0_late G M (c7 (g _ s σ H _ I h) λv s1 ⟨x,d,O,f,a,aR,ob,ex,T,q⟩=>?_);subst ex;obtain⟨h1,h2⟩:=BM O f  (.inr (.inr (.inl ⟨rfl,.inl ⟨aR,ob,T⟩⟩)));cases f
 obtain⟨es,i,hd⟩:=yC O.hok T;obtain⟨vs,r,m⟩:=sx O.hok T hd;have hl :=(Paired.length r).symm;refine⟨"dict","dict.items",plainAttrs_dict,PySem.F.slot_dict_items,PySem.F.type_dict_items,h1,h2,Calls.callWith_builtin rfl (PySem.evalArgs_none ?_)⟩;refine call_meetsIn PySem.F.slot_dict_items h1 PySem.F.entry_dict_items (PySem.F.args_dict_items_1 _) (meets_dict_items _ a (ro O.hok T).2.1) ⟨⟨vs,m.dictOf⟩,?_⟩;have U:Inv X ag σ d { s1 with heap:=s1.heap.push { cls:=.type "dict_items",data:=.fields #[.ref a] } }:=O.kept  λb o e=>vZ _ e;refine wpAny_pyIter_items  ⟨_,vY _ rfl,rfl,rfl⟩ (m.keep λb o e=>vZ _ e) ?_;rw[hl];refine⟨(s1.heap.push _).objs.size,[(s1.heap.push _).objs.size],_,_,d,rfl,U.kept  λb o e=>vZ _ e,Cu a _ aR ob hd,⟨_,_,vY _ rfl⟩,λb hb=>?_,q⟩;have e:b=(s1.heap.push { cls:=.type "dict_items",data:=.fields #[.ref a] }).objs.size:=by simpa using hb
 subst e;exact U.fpOk (vT _) (U.hok.fresh (vT _))
noncomputable def ng (ks:LK)(ds:LD):LD:=(ks.zip ds).map λx=>.tup [kD x.1,x.2]
theorem Ix {K:Frag}{B:Hp}{a:Addr}{ks:LK}{vs:LV}{ds:LD}{ob:Obj}(h:B a=some (.dK (ks.zip vs) ob))(hl:ks.length=vs.length)(hs:IsL K B vs ds):pq K (U0 a (ks.zip vs) ob) B (ng ks ds):=by
 intro i H s;have hz:(ks.zip vs).length=vs.length:=by rw[length_zip];lia
 have hn:=hs.length;refine⟨λd ed=>?_,λM=>⟨s _ _ h,by simp_all[ng]⟩⟩;unfold ng at ed;rw[vA]at ed;obtain⟨⟨k0,d0⟩,ek,rfl⟩:=oY ed;obtain⟨b,e2⟩:=getElem?_zip_eq_some.mp ek;obtain⟨v,ev,iv⟩:=hs.get e2;have G :=(vV ev).1;refine⟨⟨s _ _ h,by rw[hz];exact G⟩,λy g hy=>?_⟩;obtain⟨T,k,c,rfl,f,rfl,e⟩:=hy;obtain⟨g1,O⟩:=getElem?_zip_eq_some.mp e;rw[b]at g1;cases g1;rw[ev]at O;cases O;have U:=Ext.laid (o:=.tup [kV k0,c]) s f;exact⟨_,U,.tup (jw.of a8) (.cons (RH _) (.cons (iv.mono U.bn) .nil))⟩
@[simp] def DK (f:FE):FA:=λρ=>(f ρ).bind λx=>match x.1 with|.dk ks ds=>some (ng ks ds)|_=>none
theorem Iy (h:JE X e f)(G:attributeBase e "items" X.env (eval e X.env)=eval e X.env:=by rfl)(M:(di.endLine == cj.line)=true:=by rfl):JI X (.Tuple es kt pt) (.Call (.Attribute e "items" di) [] [] cj) (DK f):=by
 intro ag s σ H R I q;obtain⟨B,ρ,ds,T,r,U,q⟩:=q;obtain⟨⟨xd,c⟩,ex,es⟩:=oX U;cases xd<;>try (cases es;done)
 cases es
 refine Iw h G M _ s σ H R I ⟨B,ρ,_,_,T,r,ex,λv b N1 O i1 _=>?_⟩;cases i1 with
 |@dk a ks vs ds ob hd hl hs=>exact⟨a,_,ob,rfl,O.nh _ _ hd,q _ b N1 O (Ix hd hl hs)⟩
end
section
variable {K:Frag}{E:Ends}{σ:St}{H:Hp}
def sD (i:Nat)(M O:FE):FS:=λρ=>match ρ[i]? with
 |some (some (.dk ks vs,true))=>(O (jV ρ)).bind λv=>(M ρ).bind λk=>(mD k.1).bind λG=>if ks.length<sizeLine then some (.nx (ρ.set i (some (.dk (eY ks G) (dr ks vs G v.1),true))))else none
 |_=>none
theorem F7 (q:pb K (sD i fk fv) E σ H):Dg (qH i) (tD K fk) (tD K fv) E σ H:=by
 obtain⟨B0,H0,ρ,r,⟨N,s⟩,e,p⟩:=q;unfold sD at e;split at e
 .rename_i ks ds ei;obtain⟨v,ev,e⟩:=oX e;obtain⟨k,ek,e⟩:=oX e;obtain⟨M,hk,e⟩:=oX e;split at e
  .cases e
   refine⟨gg N _,jV ρ,v.1,v.2,bW.trans s.ext.nh,s.repH,ev,λU b N1 O i1 _=>?_⟩;obtain⟨s1,c⟩:=s.growH O;obtain⟨a,o,h1,h2,h3,h4⟩:=s1.ow i _ ei;refine⟨.ref a,h1,_,ρ,k.1,k.2,s1.ext.nh,s1.rep,ek,λd H2 N2 G i2 _=>?_⟩;have s2:=s1.grow G;have hv:=wL i2 hk;subst hv;obtain⟨f,o',k1,k2,k3,k4⟩:=s2.ow i _ ei;rw[h1]at k1;cases k1
   cases k4 with
   |@dk ks vs ds hl h5 ob=>
    refine⟨a,rfl,.inl ⟨_,M,_,s2.ext.nh _ _ k2,rfl,?_,λT=>?_⟩⟩
    .rw[length_zip];lia
    .rw[qU hl];exact p σ _ ⟨_,s2.writeB ei h1 (.dk (om hl _ _) (h5.put ((i1.mono c).mono (fz λa o e q=>⟨G.bn a o e,q⟩))))⟩
  .cases e
 simp_all
end
section
variable {X:Cx}{pos:Pos}{e k:Expr}
theorem Iz (hu:X.A.units+1<cLine)(hv:JE X e T)(hk:JE X k U)(O:X.N[i]? = some y:=by rfl)(G:Nw X.env.scope y:=by first|exact Or.inl rfl|exact Or.inr (Or.inl rfl)|exact Or.inr (Or.inr rfl))(hd:(y == ("__debug__" : Str))=false:=by decide)
  (M:(y == ("__classdict__" : Str))=false:=by decide) (hs:swapsWith e (some (.Subscript (.Name y py) k pt)) pos.line X.env=pure false:=by rfl):JS X (.Assign [.Subscript (.Name y py) k pt] e pos) (sD i U T) :=
 PS.to (xY hu (rh O G hd M) hk hv hs) λ_ _ _ q=>F7 q
end
section
variable {prog:Program}{w:World}{A:Around}{E:QV}{s:Shared}
theorem DM:∀(vs:LU)(ns:LI),vs.length=ns.length->(∀(i:Nat)(v:Value),vs[i]? = some v->∃(m:Int)(t:Tok),ns[i]? = some m/\v=Value.int m t)->IntsAre vs ns
 |[],[],_,_=>.nil
 |v::vs,n::ns,h,k=>by
  obtain⟨m,t,e,rfl⟩:=k 0 v rfl;cases (show some n=some m from e)
  exact .cons n t (DM vs ns (by simpa using h) λi v hv=>k (i+1) v hv)
theorem A4 (hh:A.handled=none)(lo:(a == sysModules)=false)(hm:s.heap.DictAt (dm prog w) a aR ep)(hk:aR.map (·.1)=ns.map .inl)(f:ns.length<64)
  (g:∀(h1 h':Heap)(tk:Nat)(b:Addr)(out:AV)(n:Nat)(G:LI),(∀c u,s.heap.get? c=some u->h1.get? c=some u)->(∀c u,h1.get? c=some u->h'.get? c=some u)->h1.objs.size<=b->h'.get? b=some (seqObj "list" out n) ->
   IntsAre out.toList G->G.Perm ns->G.Pairwise (·<=·)->Q (.ref b) { s with heap:=h',toks:=tk }):
  wpAny (model prog w) A (call (.builtin "sorted") [.ref a]) Q E s:=by
 refine Calls.call_function_entry kind_sorted plain_sorted entry_sorted (args_sorted1 _) ?_;refine wX  (wY ?_);have h :=by have:=congrArg List.length hk;simpa using this
 refine wX (kdu_collect (A:=A.in1) (kdl_dict lo) (by exact hh) hm (by rw[sizeLine_eq];lia) λh1 tk O T M=>?_);have U:O.toList.length=ns.length:=by rw[vG,M.1,h]
 have j :=DM O.toList ns U λi v hv=>by
  obtain⟨k,x,l,e2⟩:=M.2 i v (by simpa using hv);have e:(aR.map (·.1))[i]? = some k:=by rw[vA,l];rfl
  rw[hk,vA]at e;obtain⟨m,o,rfl⟩:=oY e;obtain⟨t,rfl⟩:=Value.isInt_shape (k:=m) (v:=v) e2;exact⟨m,t,o,rfl⟩
 refine wX (wpAny_newList ?_ (by rw[U,sizeLine_eq];lia));have d:(h1.push (seqObj "list" O.toList.toArray 0)).get? h1.objs.size=some _:=vY _ rfl;refine wX (wpAny_holding (wpAny_call_entry slot_list_sort ⟨_,d,rfl⟩ entry_list_sort (list_sort_tree d j (by rw[U];exact f) λout G p r y=>⟨_,rfl,?_⟩) (args_list_sort _)));obtain⟨n,he⟩:=sortedHeap_at (out:=out) d;refine wY ⟨_,rfl,g h1 _ _ _ out n G T (λb u q=>?_) (vT _) he p r y⟩;have hl:=vX q;rw[sortedHeap_old (vS hl) (by simp_all[lt_succ_of_lt])];exact vZ _ q
end
noncomputable def wQ:LK->Option LI
 |[]=>some []
 |.inl n::ks=>(wQ ks).map (n :: ·)
 |.inr _::_=>none
theorem A5:∀ {ks:LK}{ns:LI},wQ ks=some ns->ks=ns.map .inl
 |[],_,h=>by cases h;rfl
 |.inl n::ks,_,h=>by
  obtain⟨r,h1,rfl⟩:=oY h;rw[A5 h1];rfl
 |.inr _::_,_,h=>by cases h
theorem L0 {aR:List (ft×V)}{vs:List (ft×Value)}(r:KV aR vs):vs.map (·.1)=aR.map (·.1):=by
 induction r with
 |nil=>rfl
 |cons h t ih=>simp_all
@[simp] def A6:LD->OB
 |[.dk ks _]=>(wQ ks).bind λns=>if ns.length<64 then some (.lst ((qc ns).map .int),true)else none
 |_=>none
section
variable {X:Cx}
theorem F8 (hc:X.calm=true):cn X (.builtin "sorted") (Di X.K A6):=by
 intro ag s σ H xs us Q I r h;obtain⟨B,dl,d,bb,f,i,M,q⟩:=h;cases i with
 |nil=>simp  at M
 |cons i1 i2=>
  cases i2 with
  |cons _ _=>simp_all
  |nil=>
   cases i1 with
   |@dk a ks vs ds ob hd hl hs=>
    obtain⟨u,rfl,j⟩:=ij r;cases j
    obtain⟨ns,en,M⟩:=oX M;split at M
    .rename_i O;cases M
     have T:=f _ _ hd;obtain⟨es,y,U⟩:=yC I.hok T;obtain⟨k,l,m⟩:=sx I.hok T U;have c:k.map (·.1)=ns.map .inl:=by rw[L0 l,List.map_fst_zip M9,A5 en]
     refine A4 (I.ok.hd hc) (ro I.hok T).2.1 m c O λh1 h' tk b out n p k1 k2 hb he t G v=>?_;have e:=Ar G v;subst e;have g:Inv X _ σ H { s with heap:=h1,toks:=tk }:=wE I k1 rfl rfl;have hf :=g.hok.fresh hb;have x:=Ext.laid (o:=.lst ((qc ns).map V.int)) f hf;exact⟨.ref b,_,g.laid  k2 hb (show bP _ X.w _ h' _ (.lst _)from ⟨by rw[vI];unfold qc;rw[(bp _ ns).length_eq,sizeLine_eq];lia,out.toList,n,iC t,he⟩),rfl,q _ _ _ x (.lst (ii.of a8) (oj _)) λ_=>⟨_,_,_,rfl,rfl,hf,a8,oj _⟩⟩
    simp_all
   |_=>simp  at M
theorem OQ (hu:X.A.units+1<cLine)(hi:JE X i fi)(T:JE X o fo)(hm:behindInMarks .In o=false:=by first|exact lh _ V9 V9|rfl):JE X (.Compare i [.In] [o] pos) (f2 Wc fi fo):=by
 refine PE.to (N6 (Oe hu hi T) hm) λσ H Q q=>?_;obtain⟨B,ρ,d,bb,U,r,G,q⟩:=q;obtain⟨y,b,G⟩:=oX G;obtain⟨x,ex,G⟩:=oX G;refine⟨B,ρ,y.1,y.2,U,r,b,λc e N1 M i2 _=>⟨N1,ρ,x.1,x.2,M.nh,r.mono M.bn,ex,λv H2 N2 O i1 f=>?_⟩⟩;obtain⟨xd,g⟩:=x;cases i1 with
 |@dk a ks vs ds ob h hl hs=>
  obtain⟨k,hk,G⟩:=oY G;cases G
  have hv:=wL i2 hk;subst hv;refine⟨a,lq _ k,rfl,.inl ⟨_,k,_,.inl (O.nh _ _ h),rfl,rfl⟩,?_⟩;rw[Fv hl hs];exact(q.into (M.trans O)).one O.nh (.bl _)
 |_=>simp  at G
end
end DL
namespace DL
open PySem PySem.Spec PyProof.Rows L2
@[simp] abbrev fV (i:Nat)(g:FA):FA:=af (aj i) g
@[simp] abbrev fI (n:Int):FE:=fC (.int n)
@[simp] abbrev fS (s:PySem.Str):FE:=fC (.str s)
section
variable {X:Cx}{es:QD}{g:FA}{pos:Pos}
theorem aF {x:Str}{p:Pos}(i:Nat)(G:JA X es g)(M:PE X (.Name x p) (qH i):=by exact pv)
  (hs:starEach (.Name x p::es) X.env=(false,eval (.Name x p) X.env)::starEach es X.env:=by rfl):JA X (.Name x p::es) (fV i g):=ak (ah i M) G hs
theorem cJ {i:Int}{j:Nat}(G:JA X es g):JA X (.Constant (.int i) j pos::es) (af (fC (.int i)) g):=ak ax G
theorem a5 (F:Fn X.prog X.w X.K X.mg X.base k x f)(O:eU j X.A)(ha:JA X (e::es) g:=by repeat first|exact am|refine aF _ ?_|refine ak a0 ?_)(hj:k<=j:=by decide)(T:Gl X x:=by rfl)(G:(x == ("__debug__" : Str))=false:=by decide)(he:starEach (e::es) X.env=(false,eval e X.env)::starEach es X.env:=by rfl)(M:(backTo pos (starEach es X.env)).any (·.1)=false:=by rfl):JE X (.Call (.Name x p) (e::es) [] pos) (fA f g):=Dl F (O.mono hj) ha T G he M
theorem aQ (he:JE X e f):wm X [.Return (some e) pos] (aH f):=be (He he)
theorem bq {c:Expr}{G:FT}(hc:JT X c G)(he:JE X e f):JS X (.If c [.Return (some e) p] [] pos) (dc G (aH f) aV):=fZ hc (be (He he)) fM
theorem bf (i:Nat)(G:PE X (.Name x p) (qH i):=by exact pv):JE X (.Subscript (.Name x p) (.Constant (.int n) j q) pos) (cP i n):=aT (ah i G) ax
end
def L1 (K:Frag)(x:Str)(st:Stmt):Prop:=∃(f T:Addr)(oc:Value)(od an:Option Addr)(kV doc pm dv ct:Value)(mv:Array (Option Value))(G:Obj)(n:Nat),
 K.lookup f=some ⟨oc,od,.func (fnOf x x (dZ st) (cc st) (aO st) (.ref T) kV doc pm an dv ct),mv⟩/\PySem.W.codeIn K dv x=true/\PySem.W.keepIn K (.ref f)=true/\nsIn K mainGlobals x=some (some (.ref f))/\K.lookup T=some G/\G.data=.seq #[.none] n
theorem defD_mk {K:Frag}{x:Str}{st:Stmt}{f T:Addr}{oc M:Value}{od an O:Option Addr}{mv G:Array (Option Value)}{kV doc pm dv ct:Value}{n:Nat}(a:nsIn K mainGlobals x=some (some (.ref f)))
  (l:K.lookup f=some ⟨oc,od,.func (fnOf x x (dZ st) (cc st) (aO st) (.ref T) kV doc pm an dv ct),mv⟩) (c:PySem.W.codeIn K dv x=true) (k:PySem.W.keepIn K (.ref f)=true) (t:K.lookup T=some ⟨M,O,.seq #[.none] n,G⟩):L1 K x st:=⟨f,T,oc,od,an,kV,doc,pm,dv,ct,mv,_,n,l,c,k,a,t,rfl⟩
structure FnD (P:Program)(w:World)(K:Frag)(mg:Str->Option Value)(base:Heap)(k:Nat)(x:Str)(f:List D->OB):Prop where
 ex:∃(ad:Addr)(fd:FuncData)(ps:List Str),uM P w K mg base zi k ad fd ps (Hg K f)/\mg x=some (.ref ad)/\PySem.W.keepIn K (.ref ad)=true/\pU K fd ps []/\pU K fd ps [.none]
theorem FnD.fn {P:Program}{w:World}{K:Frag}{mg:SV}{base:Heap}(F:FnD P w K mg base k x f):Fn P w K mg base k x f:=let ⟨ad,fd,ps,h1,h2,h3,h4,_⟩:=F.ex;⟨ad,fd,ps,h1,h2,h3,h4⟩
@[simp] noncomputable def Qo (op:LD->OB)(fa:FA):FE:=λρ=>(fa ρ).bind λds=>op (ds++[.non])
section
variable {X:Cx}{e:Expr}{es:QD}{p pos:Pos}
theorem MV (F:FnD X.prog X.w X.K X.mg X.base k x f)(T:eU j X.A)(ha:JA X (e::es) fa)(hj:k<=j:=by decide)(U:Gl X x:=by rfl)
  (G:(x == ("__debug__" : Str))=false:=by decide) (he:starEach (e::es) X.env=(false,eval e X.env)::starEach es X.env:=by rfl) (M:(backTo pos (starEach es X.env)).any (·.1)=false:=by rfl):
  JE X (.Call (.Name x p) (e::es) [] pos) (Qo f fa):=by
 obtain⟨ad,fd,ps,a,hm,hk,_,hb⟩:=F.ex;refine PE.to (CY a (T.mono hj) U hm hk hb (.cons (show L2.aX V.non _ from rfl) .nil) MC ha G he M) λσ H Q q=>?_;obtain⟨B,ρ,d,b,s,r,e,q⟩:=q;obtain⟨ds,ex,e⟩:=oX e;exact⟨B,ρ,ds,s,r,ex,λvs c N1 O i1=>⟨N1,ds++[.non],d,b,⟨O.nh,r.tb.mono O.bn⟩,i1.append (.cons .non .nil),e,q.into O⟩⟩
end
section
variable {P:Program}{w:World}{K:Frag}{mg:SV}{base:Heap}
theorem L1.fqD {x:Str}{st:Stmt}{k:Nat}{p:LD->OB}(F:L1 K x st)(B:∃h,K.In h/\h.Ns mainGlobals mg)(g:FS)(N:LS)(n:Nat)
  (hb:∀ {f:Addr}{dv:Value}{A:Around}{outer:List PySem.Env}{s:Shared}{H:Hp}{E:XK},N.Nodup->eU k (A.deeper (envOfC x (aO st) s.heap.objs.size f dv))->(A.deeper (envOfC x (aO st) s.heap.objs.size f dv)).units+40<cLine->wm (ph zi P w K mg base N x (aO st) f dv A outer s H E).nox (cc st) g)
  (S:FnScope N (N.take n) (aO st):=by refine⟨rfl,rfl,rfl,?_,rfl,?_,?_⟩<;>decide +kernel)
  (U:∀(T:Addr)(kV doc pm:Value)(an:Option Addr)(dv ct:Value)(us:LU),us.length=(N.take n).length->∃O,bindArgs (fnOf x x (dZ st) (cc st) (aO st) (.ref T) kV doc pm an dv ct) ⟨us,[]⟩=seqItems? (.ref T)>>=O/\O (some #[.none])=pure ((N.take n).zip us):=by
   exact λ_ _ _ _ _ _ _=>Iv _ _ (by(repeat intro);exact⟨_,rfl,rfl⟩))
  (hb1:∀(T:Addr)(kV doc pm:Value)(an:Option Addr)(dv ct:Value)(us:LU),us.length=(N.take n).length - 1->∃O,bindArgs (fnOf x x (dZ st) (cc st) (aO st) (.ref T) kV doc pm an dv ct) ⟨us,[]⟩=seqItems? (.ref T)>>=O/\O (some #[.none])=pure ((N.take n).zip (us++[.none])):=by
   exact λ_ _ _ _ _ _ _=>Iv _ _ (by(repeat intro);exact⟨_,rfl,rfl⟩))
  (e:aC g (N.take n).length (N.length - (N.take n).length)=p:=by rfl):FnD P w K mg base (k+1) x p:=by
 subst e;obtain⟨h,X,G⟩:=B;obtain⟨f,T,oc,od,an,kV,doc,pm,dv,ct,mv,I,m,t,u,kp,a,lt,dt⟩:=F;have len:∀vs H Q E,Hg K (aC g _ (N.length - (N.take n).length)) vs H Q E->vs.length=(N.take n).length:=λvs H Q E h=>by
  obtain⟨B,ds,d,b,c,i,e,q⟩:=h;unfold aC at e;split at e
  .rename_i hl;rw[i.length];exact hl
  simp_all
 refine⟨f,_,N.take n,G9 t u S len λA outer s H vs Q E r h=>⟨_,uR.nox (hb S.nd r (zK r)),?_⟩,mg_of X G a,kp,λs us j hl=>?_,λs us j hl=>?_⟩
 .have M:=len vs H Q E h;obtain⟨B,ds,d,b,c,i,e,q⟩:=h;unfold aC at e;rw[if_pos (by rw[<-i.length];exact M)]at e;have l:=rC (N:=N) c.1 c.2 i;rw[M]at l;split at e
  .rename_i d' b' o;cases e
   exact⟨B,H,_,_,⟨B,l⟩,o,λv H' N' y z C=>q v H' N' y z C⟩
  .rename_i ρ' o;cases e
   exact⟨B,H,_,_,⟨B,l⟩,o,λD H' ⟨N',s'⟩=>q _ _ _ s'.ext .non N9⟩
  simp_all
 .rw[uQ]at hl |-;obtain⟨O,h1,h2⟩:=U T kV doc pm an dv ct us hl;exact .of_defaults rfl (j _ _ lt) dt h1 h2
 .rw[uZ,length_singleton]at hl;obtain⟨O,h1,h2⟩:=hb1 T kV doc pm an dv ct us M9;exact .of_defaults rfl (j _ _ lt) dt h1 h2
end
end DL
namespace DL
open PySem PySem.Spec PySem.W PyProof.Rows L2
def OR (ns:LI):Prop:=∀i∈ns,Builtin.Int.intBits i<=1048576
abbrev OS:D->D->OB:=BQ (λi j=>decide (Builtin.Int.intBits i<=2097152/\Builtin.Int.intBits j<=2097152)) λi j=>.int (i*j)
theorem OT {X:Cx}:dU X (binaryOp .Mult) (rD X.K OS):=nR   (QJ λ_ _ _ _ _ _ _ hc q=>mul_int q (IntMulOk.of_le hc.1 hc.2 V9)) (λ_ _ h=>Ss h) λ_ _ _=>.int _
theorem OU {ns:LI}(h:WData.layableAll [WData.list (ns.map WData.int)]=true):OR ns:=λi hi=>by
 have h1 :=layableW_arg h _ (mem_singleton.mpr rfl);have h2:=layableW_item h1 _ (uS ⟨i,hi,rfl⟩);simp_all[WData.layable,WData.weight,Builtin.Int.intBits]
theorem walkB {l:PySem.W.OpenLaw}{q:Program}{O:LS}{E:SV->Heap->Prop}{B:World->Heap->Prop}{d:DefRec}{K:Params->Frag}{k:Nat}{x:Str}{f:LD->OB}{L:List (Str×Option (Addr×Addr))}(hn:l.most=some 63)(I:d.params.defaults=[])(J:eU k callerA)
  (Q:∀(w:World)(h:Heap),B w h->(K w.params).In h) (m:∀w:World,re (K w.params) L) (R:(L.all λp=>p.2.isNone || ((recsOf q).find? λe=>e.name == p.1).isSome)=true)
  (F:∀(w:World)(mg:SV)(fa:Addr)(h:Heap),(K w.params).In h->h.Ns mainGlobals mg->mg d.name=some (.ref fa) ->
   ∃fd:FuncData,(∀(s:Shared)(u:Value),BindsTo s fd ⟨[u],[]⟩ [(x,u)])/\∀base:Heap,(K w.params).In base->base.Ns mainGlobals mg->uM l.prog w (K w.params) mg base zi k fa fd [x] (Hg (K w.params) f))
  (S:∀ns:LI,ns.length<=63->OR ns->∃b,f [.lst (ns.map .int)]=some (.bl true,b)):PySem.W.WalkO q O E B l.row.toRowW d [] (λf vs=>PySem.call f vs):=by
 intro w s₀ C mg mb G Y fa o pm cd doc dV kV ho hd PH V n X args vals as i j Z t hlo;obtain⟨a,vs,ns,rfl,rfl,VA,U,M⟩:=Att.ER hn i t;have y:=Q w _ Y;obtain⟨fd,hb,hF⟩:=F w mg fa _ y G.T.g n;refine enter_call (codeAny_mono (Fa (yk L) (λb u e=>?_) (m w).none y G.T.g G.T.b G.T.builtins G.T.nolimit G.T.bmain X VA U (vR M V9) J hF hb λH hH hS=>?_) λr s' hq=>?_)
 .obtain⟨p,hp,e2⟩:=mem_filterMap.mp (lw e);obtain⟨⟨c,P⟩,e3,e4⟩:=oY e2;cases e4
  have D:=all_eq_true.mp R p hp;rw[e3]at D;obtain⟨r,z⟩:=uU D;have A:PySem.W.tabIn (K w.params) p.1=some (c,P):=by
   rw[(m w).names]at hp;simp_all<;>lia
  obtain⟨h1,h2⟩:=PySem.W.tab_of G.T y z A;exact⟨h2,(h1.tab h2).isCodeTable⟩
 .obtain⟨b,e⟩:=S ns M (OU j);exact⟨H,_,_,b,⟨.refl H,(m w).tb hH⟩,.cons (.lst hS (.flat rfl)) .nil,e,λv H' N x' i' _=>by cases i';rfl⟩
 .obtain⟨rfl,h2,h3,h4⟩:=hq;exact⟨.inl ⟨.bool _,.bool _,[],rfl,λ_=>rfl,.bool _,Att.ES l _,λ_=>⟨List.Pairwise.nil,λ_ hm=>(nomatch hm)⟩⟩,h2,h3,h4⟩
theorem A7 {prog:Program}{w:World}{A:Around}{E:QV}{s:Shared}{r:Addr}{j:Int}{t u v:Tok}{R:LU->Shared->Prop}(hh:A.handled=none)(U:IsRange s.heap r 0 j 1 t u v)(h0:0<=j)(h1:j<64)
  (h:∀(h':Heap)(tk:Nat)(G:AV),(∀b o,s.heap.get? b=some o->h'.get? b=some o)->ItemsOf (λi v=>∃t,v=.int (0+i*1) t) G j.toNat->R G.toList { s with heap:=h',toks:=tk }):
  wpAny (model prog w) A (collect (.ref r)) R E s:=by
 unfold collect;refine wX (wpAny_runValue (codeAny_builtin entry_proto_collect' ?_));refine wX (m:=newList []) (wpAny_newObj_type (wY ⟨plainId_quiet PySem.F.plain_list_iadd _,codeAny_builtin entry_list_iadd' ?_⟩));have hn:Builtin.Range.rangeSize 0 j 1=j.toNat:=by rw[rangeSize_one];split<;>lia
 refine wpAny_mono (wpAny_extend_range (A:=A) 
  (R:=λq s'=>∃(h':Heap)(tk:Nat)(G:AV)(c:Nat),q=.ok _/\s'={ s with heap:=h',toks:=tk }/\(∀b o,s.heap.get? b=some o->h'.get? b=some o)/\h'.get? s.heap.objs.size=some { cls:=.type "list",data:=.seq G c }/\ItemsOf _ G j.toNat)
  hh (vZ _ U) (small_one M9 M9 M9 M9) hn M9 s.heap.objs.size _ 0 (vY _ rfl)
  λh' tk G c hk M ha=>⟨h',tk,G,c,rfl,rfl,λb o e=>hk b o (vS (vX e)) (vZ _ e),M,ha⟩) (λgz s' x=>?_) λe s' x=>?_
 .cases gz with
  |done f=>
   obtain⟨h',tk,G,c,e,rfl,hk,M,ha⟩:=x;cases e
   exact wX (wpAny_load M (wY (h h' tk G hk ha)))
  |again O=>
   refine⟨x.1,codeAny_mono x.2 λq T y=>?_⟩;obtain⟨h',tk,G,c,rfl,rfl,hk,M,ha⟩:=y;exact wX (wpAny_load M (wY (h h' tk G hk ha)))
 simp_all
theorem A8:∀(n k:Nat)(vs:LU),vs.length=n->(∀i v,vs[i]? = some v->∃t,v=Value.int ((k+i:Nat):Int) t)->bg ((List.range' k n).map λ(i:Nat)=>V.int (i:Int)) vs
 |0,_,[],_,_=>.nil
 |n+1,k,v::vs,h,e=>by
  obtain⟨t,rfl⟩:=e 0 v rfl;refine .cons ⟨t,rfl⟩ (A8 n _ vs (by simpa using h) λi v hv=>?_);obtain⟨t,rfl⟩:=e (i+1) v hv;simp<;>lia
theorem DN {K:Frag}{B:Hp}:∀l:LN,IsL K B (l.map λ(i:Nat)=>V.int (i:Int)) (l.map λ(i:Nat)=>D.int (i:Int))
 |[]=>.nil
 |a::l=>.cons (.int _) (DN l)
noncomputable def qh (n:Nat):LD:=(List.range' 0 n).map λ(i:Nat)=>.int (i:Int)
@[simp] def IA (f:FE)(M:Env->D->Option D):FE:=λρ=>(f ρ).bind λx=>match x.1 with
 |.int j=>if 0<=j/\j<64 then (kn (M ρ) (qh j.toNat)).bind λG=>(ee G).bind λks=>if ks.length<64/\dj ks=true/\c9 ks=true/\(ks.map cC).Nodup then some (.lst (gZ ks (qh j.toNat)),true)else none else none
 |_=>none
section
variable {X:Cx}{a ke:Expr}{p p' pos pT kp:Pos}
theorem RM (Ki:X.calm=true){f:FE}{L:Env->D->Option D}(hm:X.mg "sorted" = none)(c:X.mg "range" = none)(he:JE X a f)(hk:JK X X.A.in1.in1 ke L)(hg:Gl X "sorted":=by rfl)(g:Gl X "range":=by rfl)(P:starEach [a] X.env=[(false,eval a X.env)]:=by rfl)
  (TB:starEach [.Call (.Name "range" p') [a] [] pT] X.env=[(false,eval (.Call (.Name "range" p') [a] [] pT) X.env)]:=by rfl) (R:backTo pos (starEach [.Call (.Name "range" p') [a] [] pT] X.env)=(false,eval (.Call (.Name "range" p') [a] [] pT) X.env)::backTo pos (starEach [] X.env):=by rfl) (U:(backTo pos (starEach [.Call (.Name "range" p') [a] [] pT] X.env)).any (·.1)=false:=by rfl)
  (CS:(backToKw pos (keywordEach [⟨some "key",ke,kp⟩] X.env)).all (·.1.isSome)=true:=by rfl) (SX:(backToKw pos (keywordEach [⟨some "key",ke,kp⟩] X.env)).any (·.1.isNone)=false:=by rfl)
  (SY:(backToKw pos (keywordEach [⟨some "key",ke,kp⟩] X.env)).filterMap (·.1)=[("key" : Str)]:=by rfl):
  JE X (.Call (.Name "sorted" p) [.Call (.Name "range" p') [a] [] pT] [⟨some "key",ke,kp⟩] pos) (IA f L):=by
 intro ag s σ H Q I h;obtain⟨B,ρ,d,b,sB,rep,G,q⟩:=h;obtain⟨⟨xd,xb⟩,ex,G⟩:=oX G;cases xd<;>try (cases G;done)
 rename_i j;dsimp only at G;split at G
 case isFalse=>cases G
 rename_i hj;obtain⟨S,W,G⟩:=oX G;obtain⟨ks,ek,G⟩:=oX G;split at G
 .rename_i hh;obtain⟨M4,hc,hf,nd⟩:=hh;cases G
  refine wpAny_Call_Name_kw (hV I hg hm (u:=.builtin "sorted") rfl ?_);refine callWith_kw (c7 (Q:=λus s1=>∃(r:Addr)(t u v:Tok)(M N:Hp),us=[.ref r]/\Inv X ((r,{ cls:=.type "range",data:=.fields #[.int 0 t,.int j u,.int 1 v] })::ag) σ M s1/\Ext B N H M) ?_ λus s1 k=>?_) R U CS SX
  .rw[R];refine Calls.spliced_cons (Call_ (hV I g c boot_range (callWith_type1 (c7 ((ak he am P) pT ag s σ H (λvs M=>∃N,vs=[.int j]/\Ext B N H M) I ⟨B,ρ,[.int j],sB,rep,by simp[af,ai,ex],λv M N O i1=>⟨N,by cases i1 with|cons i1 i2=>cases i1;cases i2;rfl,O⟩⟩) λus s1 k=>?_) P rfl)));obtain⟨vs,M,l,r1,N,rfl,O⟩:=k;obtain⟨u,rfl,t,rfl⟩:=ij r1;exact call_range_1 (Calls.spliced_nil ⟨_,_,_,_,M,N,rfl,ml l (λb o e=>vZ _ e) (vT _) (vY _ rfl) (λv z=>by cases z),O⟩)
  .obtain⟨r,t,u,v,M,N,rfl,l,O⟩:=k;refine kws_cons (hk _ s1 σ M N ρ _ _ l O.nh (rep.mono O.bn) λqa H2 s2 n m2 Gx=>kws_nil ?_);rw[SY];show wpAny _ _ (call (.builtin "sorted") [.ref r] [(("key" : Str),.ref qa)]) _ _ _;have pr:=(n.pin (r,_) (mY _ mX)).1;have sN:bc N H2:=O.nh.trans m2;refine call_function_entry_kw kind_sorted plain_sorted entry_sorted (ksk_s1 _ _) ?_;unfold Builtin.«sorted»;refine wX (m:=checkCount "sorted" 1 1 _) (wY (wX (A7 (A:=X.A.in1) (by exact n.ok.hd Ki) pr hj.1 hj.2 λh1 tk T w ha=>wX (wpAny_newList ?_ (by rw[vG,ha.1,sizeLine_eq];simp<;>lia)))))
   have rv :=A8 _ 0 _ (by rw[vG,ha.1]) λi v hv=>by
    obtain⟨t,e⟩:=ha.2 i v (by simpa using hv);exact⟨t,by rw[e];simp⟩
   have Y:IsL X.K N _ (qh j.toNat):=DN (List.range' 0 j.toNat);have Xr:(qh j.toNat).length=j.toNat:=by simp[qh]
   have Xb:S.length=(qh j.toNat).length:=lx W;have V0:ks.length=S.length:=gE ek;have Xs:T.toList.length=j.toNat:=by rw[vG,ha.1]
   have x:Inv X ag σ H2 { s2 with heap:=h1,toks:=tk }:=(jJ n).kept w;have Z:Inv X ((h1.objs.size,seqObj "list" T.toList.toArray 0)::ag) σ H2 _ :=
    ml (s:={ s2 with heap:=h1,toks:=tk }) (t':=tk) x (λb u q=>vZ _ q) (vT _) (vY _ rfl) de
   have p3:=Z.pin (h1.objs.size,seqObj "list" T.toList.toArray 0) (mY _ mX);refine wX (wpAny_holding (wpAny_call_entry_kw slot_list_sort ⟨_,p3.1,rfl⟩ entry_list_sort ?_ (ksk_l1 _ _)));rw[ksk_t1];refine sj Z x.sz (λq hq=>vS (vX (x.pin q hq).1)) Gx rv Y sN Cn W ek hc hf M9 λpm s' H' N' y up J C hn=>⟨_,rfl,wY ⟨_,rfl,?_⟩⟩;have U:T.toList.length=(qh j.toNat).length:=M9
   rw[U]at y up;have er:=sn M9 hc (sk nd) y up;have E:=oi (Y.mono C.bn) pm.toList λi hi=>mem_range.mp (y.perm.mem_iff.mp hi);rw[er]at E;have x4:Ext B N' H H':=(O.trans (.grow O.nh m2)).trans C;have F:=Ext.laid (o:=.lst (pm.toList.map λi=>((List.range' 0 j.toNat).map λ(i:Nat)=>V.int (i:Int)).getD i .non)) C.nh hn;exact⟨.ref h1.objs.size,_,J,rfl,q _ _ _ (x4.trans F) (.lst (ii.of a8) (E.mono F.bn)) λ_=>⟨_,_,_,rfl,rfl,x4.hh.free hn,a8,E.mono F.bn⟩⟩
 .cases G
end
structure OneK (α:Type)[DecidableEq α] where
 v:α->V
 ev:Value->α->Bool
 as:List D->Option (List α)
 rel:∀ {a:α}{u:Value},aX (v a) u->∀b,ev u b=decide (a=b)
 eq:∀ {A:Around}{s:Shared}{a b:α}{u u':Value},aX (v a) u->aX (v b) u'->PySem.SeqAt.EqAt A s u u' (ev u b)
 is:∀ {K:Frag}{B:Hp}{ws:List V}{ds:List D}{l:List α},IsL K B ws ds->as ds=some l->ws=l.map v
noncomputable def XH:Value->Int->Bool
 |.int a _,b=>decide (a=b)
 |_,_=>false
noncomputable def XI:Value->Str->Bool
 |.str a _,b=>decide (a=b)
 |_,_=>false
theorem IB {K:Frag}{B:Hp}:∀ {ws:LV}{ds:LD}{l:LS},IsL K B ws ds->ga ds=some l->ws=l.map V.str
 |_,_,_,.nil,e=>by cases e;rfl
 |_,_,_,.cons  i G,e=>by
  obtain⟨z,M,e⟩:=oX e;obtain⟨r,e2,rfl⟩:=oY e;rw[IB G e2];cases i<;>try (cases M;done)
  simp_all
def U2:OneK Int:=⟨V.int,XH,kT,λ{a u} ⟨t,e⟩ b=>by subst e;rfl,λ{A s a b u u'} ⟨t,e⟩ ⟨t',G⟩=>by subst e;subst G;exact PySem.SeqAt.EqAt.int_int a t b t',HL⟩
def Tq:OneK Str:=⟨V.str,XI,ga,λ{a u} ⟨t,e⟩ b=>by subst e;rfl,λ{A s a b u u'} ⟨t,e⟩ ⟨t',G⟩=>by
 subst e;subst G;have:=PySem.SeqAt.EqAt.str_str (A:=A) (s:=s) a t b t';rw[show(a == b)=decide (a=b)from rfl]at this;exact this,IB⟩
section
variable {X:Cx}{α:Type}[DecidableEq α] (k:OneK α)
noncomputable def la (l:List α)(b:α):Nat:=l.findIdx λa=>decide (a=b)
def U3 (K:Frag):V->LV->Hp->VK->Prop:=λx vs H Q=>∃(l:Addr)(as:List α)(b:α),x=.ref l/\vs=[k.v b]/\ii K H l (as.map k.v)/\la as b<as.length/\Q (.int (la as b:Nat)) H
theorem L3 {vs:LV}{us:LU}(r:bg vs us):∀(i:Nat)(h:i<us.length),∃v,vs[i]? = some v/\aX v us[i]:=by
 induction r with
 |nil=>intro i h;cases h
 |cons G M ih=>
  intro i h;cases i with
  |zero=>exact⟨_,rfl,G⟩
  |succ i=>exact ih i _
theorem OV:Ud X "list.index" (U3 k X.K):=by
 intro ag s σ H x vs v us Q I a c h;obtain⟨l,as,b,rfl,rfl,d,hk,q⟩:=h;cases a
 obtain⟨u,rfl,ru⟩:=c.one;obtain⟨its,r,⟨o,m,e,hc,O,hd⟩,z⟩:=I.list d;have hl:=r.length;rw[vI]at hl z;have at':∀(i:Nat)(hi:i<its.length),∃G:i<as.length,aX (k.v as[i]) its[i]:=λi hi=>by
  obtain⟨v,U,e2⟩:=L3 r i hi;have G:i<as.length:=M9
  rw[vA,vU G]at U;cases U
  exact⟨G,e2⟩
 obtain⟨oc,od,f,mv⟩:=o;subst hc O hd;have hz:sizeLine<2 ^ 63 - 1:=V9
 have hj:la as b<its.length:=M9
 refine call_meets PySem.F.slot_list_index ⟨_,e,rfl⟩ PySem.F.entry_list_index (PySem.F.args_list_index_2 _ _)
  (PySem.SeqAt.list_indexAt l its.toArray m none mv u (λy=>k.ev y b) (la as b) (by simpa using hj) M9 ?_ (λi G T=>?_)) ⟨e,λy hy=>?_,?_⟩
 .obtain⟨_,M⟩:=at' _ hj;simp only[List.getElem_toArray];rw[k.rel M];exact List.findIdx_getElem  (w:=hk)
 .obtain⟨_,M⟩:=at' i (by simpa using G);simp only[List.getElem_toArray];rw[k.rel M];have:=List.not_of_lt_findIdx  (xs:=as) T;simpa using this
 .obtain⟨i,G,rfl⟩:=List.mem_iff_getElem.mp (show y∈its by simpa using hy);obtain⟨_,M⟩:=at' i G;exact k.eq M ru
 .exact⟨.int (la as b:Nat),H,I.tok _,⟨_,rfl⟩,q⟩
@[simp] def F9:D->D->OB
 |.lst ds,y=>(k.as ds).bind λl=>(k.as [y]).bind λc=>match c with
  |[b]=>if la l b<l.length then some (.int (la l b:Nat),false)else none
  |_=>none
 |_,_=>none
variable {a e:Expr}
theorem IC {di cj:Pos}{fa f:FE}(ha:JE X a fa)(he:JE X e f)(M:attributeBase a "index" X.env (eval a X.env)=eval a X.env:=by rfl)
  (T:((backTo cj (starEach [e] X.env)).all (λx=>!x.1) && (backToKw cj (keywordEach [] X.env)).all (λx=>x.1.isSome)
   && decide ([e].length+([]:List Keyword).length+(if([]:List Keyword).isEmpty then 0 else 1)<30))=true:=by rfl)
  (O:(di.endLine == cj.line)=true:=by rfl) (hs:starEach [e] X.env=[(false,eval e X.env)]:=by rfl):JE X (.Call (.Attribute a "index" di) [e] [] cj) (f2 (F9 k) fa f):=by
 refine PE.to (zr plainAttrs_list PySem.F.slot_list_index PySem.F.type_list_index (OV k) ha (fF he hW hs) M T O hs rfl) λσ H Q q=>?_;obtain⟨B,ρ,d,bb,j,r,G,gz⟩:=q;obtain⟨⟨xd,p⟩,ex,G⟩:=oX G;obtain⟨⟨s,t⟩,m,G⟩:=oX G;cases xd<;>try (cases G)
 obtain⟨as,en,G⟩:=oX G;obtain⟨c,n,G⟩:=oX G;split at G
 .rename_i b;split at G
  .rename_i hk;cases G
   refine⟨B,ρ,_,_,j,r,ex,λv u N1 g i1 f1=>?_⟩;cases i1
   rename_i l ws h m1;have o:=k.is m1 en;subst o;refine⟨.inl ⟨rfl,_,g.nh.seq h⟩,N1,ρ,_,_,g.nh,r.mono g.bn,m,λw H2 N2 i i2 _=>?_⟩;have U:=g.trans i;exact⟨l,as,b,rfl,k.is (.cons i2 .nil) n,i.nh.seq (i.bn.seq h),hk,(gz.into U).one U.nh (.int _)⟩
  simp_all
 simp_all
end
end DL
namespace DL
open PySem L2
theorem fB (I:Nat->Env->Prop)(ds:LD)(M:Env)(h0:I 0 M)
  (step:∀i d ρ,ds[i]? = some d->I i ρ->∃G ρ',tg d ρ=some G/\(g G=some (.nx ρ')\/g G=some (.ct ρ'))/\I (i+1) ρ'):
  ∃ρ',jx tg g ds M=some (.nx ρ')/\I ds.length ρ':=by
 have O:∀(es:LD)(i:Nat)(ρ:Env),ds.drop i=es->i+es.length=ds.length->I i ρ->∃ρ',jx tg g es ρ=some (.nx ρ')/\I ds.length ρ':=by
  intro es;induction es with
  |nil=>simp_all
  |cons d es ih=>
   intro i ρ e hl h;have hd:ds[i]? = some d:=by
    have:(ds.drop i)[0]? = some d:=by rw[e];rfl
    grind
   obtain⟨G,ρ',h1,h2,h3⟩:=step i d ρ hd h;have he:ds.drop (i+1)=es:=by rw[<-List.drop_drop,e];rfl
   obtain⟨T,k1,k2⟩:=ih _ _ he (by simp at hl;lia) h3;refine⟨T,?_,k2⟩;simp_all<;>lia
 exact O ds 0 _ N9 N9 h0
theorem l5 (n:Nat)(I:Nat->Env->Prop)(M:Env)(h0:I 0 M)
  (step:∀(i:Nat) ρ,i<n->I i ρ->∃G ρ',tg (.int (i:Int)) ρ=some G/\(g G=some (.nx ρ')\/g G=some (.ct ρ'))/\I (i+1) ρ'):
  ∃ρ',jx tg g (ia 0 n) M=some (.nx ρ')/\I n ρ':=by
 have hl:(ia 0 n).length=n:=by simp[ia]
 obtain⟨ρ',h1,h2⟩:=fB   I (ia 0 n) _ h0 λi d ρ hd h=>by
  unfold ia at hd;rw[vA]at hd;obtain⟨k,hk,hd⟩:=oY hd;obtain⟨O,hk⟩:=vV hk;rw[length_range]at O;rw[List.getElem_range]at hk;subst hk;rw[Int.zero_add]at hd;subst hd;exact step i ρ O h
 simp_all
theorem kx {α:Type}{xs:List α}{j:Nat}(h:j<xs.length):pW xs (j:Int)=some xs[j]:=K1 (by simp )
theorem yE {α:Type}{xs:List α}{i:Int}(h0:0<=i)(h:i.toNat<xs.length):pW xs i=some xs[i.toNat]:=by
 have:=kx h;rwa [Int.toNat_of_nonneg h0]at this
@[simp] theorem A9 (xs:LI):b8 (xs.map D.int)=true:=by
 induction xs with
 |nil=>simp
 |cons x xs ih=>simp[ih]
@[simp] theorem Ke (n:Nat)(xs:LI):(xs.map D.int).all (br n)=true:=by
 simp
@[simp] theorem L4 (xs:LI):(xs.map D.int).all jk=true:=by
 simp
theorem pA (n:Nat):ia 0 n=((List.range n).map λ(k:Nat)=>(k:Int)).map D.int:=by
 simp_all[ia]
mutual
def ot:D->D->Bool
 |.non,.non=>true
 |.bl a,.bl b=>a == b
 |.int a,.int b=>decide (a=b)
 |.str a,.str b=>decide (a=b)
 |.ty a,.ty b=>decide (a=b)
 |.tup xs,.tup ys=>sE xs ys
 |.lst xs,.lst ys=>sE xs ys
 |_,_=>false
def sE:LD->LD->Bool
 |[],[]=>true
 |x::xs,y::ys=>ot x y && sE xs ys
 |_,_=>false
end
mutual
theorem DO:∀ {x y:D},ot x y=true->x=y
 |.non,.non,_=>rfl
 |.bl a,.bl b,h=>by simp[ot]at h;rw[h]
 |.int a,.int b,h=>by simp[ot]at h;rw[h]
 |.str a,.str b,h=>by simp[ot]at h;rw[h]
 |.ty a,.ty b,h=>by simp[ot]at h;rw[h]
 |.tup xs,.tup ys,h=>by rw[ot]at h;rw[sG h]
 |.lst xs,.lst ys,h=>by rw[ot]at h;rw[sG h]
theorem sG:∀ {xs ys:LD},sE xs ys=true->xs=ys
 |[],[],_=>rfl
 |x::xs,y::ys,h=>by
  rw[sE,vC]at h;rw[DO h.1,sG h.2]
end
def Tr (r:OB)(d:D)(b:Bool):Bool:=match r with
 |some (e,c)=>ot e d && c == b
 |none=>false
theorem yF (h:Tr r d b=true):r=some (d,b):=by
 unfold Tr at h;split at h
 .rw[vC]at h;rw[DO h.1,eq_of_beq h.2]
 simp_all
section
variable {f:FE}{c:FT}{g g' h:FS}{ρ ρ':Env}{i:Nat}{d:D}{b:Bool}{r:Option Res}{ds:LD}
theorem au (hl:ds.length=n)(e:g (ds.map (λd=>some (d,false))++List.replicate k none)=some (.rt d b)):aC g n k ds=some (d,b):=by
 unfold aC;rw[if_pos hl,e]
theorem FC (n:bC d=true):setE ρ i d b=ρ.set i (some (d,false)):=by unfold setE;rw[if_pos n]
theorem ID (n:b8 ds=true):setE ρ i (.lst ds) true=ρ.set i (some (.lst ds,true)):=by
 simp_all
theorem MW (e:f ρ=some (d,b))(k:h (setE ρ i d b)=r):a6 (aU i f) h ρ=r:=by simp[e];exact k
theorem Cv (e:f ρ=some (d,b))(n:bC d=true)(k:h (ρ.set i (some (d,false)))=r):a6 (aU i f) h ρ=r:=MW e (by rw[FC n];exact k)
theorem bV (e:f ρ=some (.lst ds,true))(n:b8 ds=true)(k:h (ρ.set i (some (.lst ds,true)))=r):a6 (aU i f) h ρ=r:=MW e (by rw[ID n];exact k)
theorem cR (e:g ρ=some (.nx ρ'))(k:h ρ'=r):a6 g h ρ=r:=by unfold a6;rw[e];exact k
theorem U4 (e:g ρ=some (.rt d b)):a6 g h ρ=some (.rt d b):=by unfold a6;rw[e]
theorem U5 (e:g ρ=some (.ct ρ')):a6 g h ρ=some (.ct ρ'):=by unfold a6;rw[e]
theorem pB (e:c ρ=some true)(k:g ρ=r):dc c g g' ρ=r:=by unfold dc;rw[e];exact k
theorem lb (e:c ρ=some false)(k:g' ρ=r):dc c g g' ρ=r:=by unfold dc;rw[e];exact k
theorem RN (e:c ρ=some x)(G:x=true->g ρ=r)(M:x=false->g' ρ=r):dc c g g' ρ=r:=by
 cases x with
 |true=>exact pB e (G rfl)
 |false=>exact lb e (M rfl)
theorem bD (e:c ρ=some true)(k:g ρ=some (.rt d b)):a6 (dc c g g') h ρ=some (.rt d b):=U4 (pB e k)
theorem a9 (e:c ρ=some false)(k:h ρ=r):a6 (dc c g aV) h ρ=r:=cR (lb e rfl) k
theorem aw (e:f ρ=some (d,b)):aH f ρ=some (.rt d b):=by simp[e]
theorem jm (e:ρ[i]? = some (some (d,b)))(hb:GW d=false:=by rfl):gU i ρ=some (.rt d b):=by simp only[gU,e,hb];simp
theorem sK (e:f ρ=some (d,b))(n:bC d=true):aU i f ρ=some (.nx (ρ.set i (some (d,false)))):=by
 simp_all
theorem yG (e:f ρ=some (.lst ds,true))(n:b8 ds=true):aU i f ρ=some (.nx (ρ.set i (some (.lst ds,true)))):=by
 simp_all
theorem ie (e:ρ[i]? = some (some (.lst ds,true)))(G:f ρ=some (d,b))(n:bC d=true)(l:ds.length<sizeLine):jW i f ρ=some (.nx (ρ.set i (some (.lst (ds++[d]),true)))):=by
 simp[e,G,n,l]
theorem l7 (e:fi ρ=some ds)(k:jx tg g ds ρ=some (.nx ρ')):m6 fi tg g ρ=some (.nx ρ'):=by unfold m6;rw[e];exact k
theorem i6 (e:fi (jV ρ)=some ds)(k:jx tg g ds ρ=some (.nx ρ')):my fi tg g ρ=some (.nx ρ'):=by unfold my;rw[e];exact k
theorem gb {f:FE}{j:Nat}(e:f ρ=some (.int j,b))(hj:j<=1000):fj f ρ=some (ia 0 j):=by
 simp_all<;>lia
theorem cU (e:f ρ=some (.bl x,b)):aY f ρ=some x:=by unfold aY;rw[e]
theorem ba (e:fa ρ=some ds)(k:F ds=x):fA F fa ρ=x:=by simp_all
theorem jK {f1 g1:D->D->OB}{fa G M:FE}{x y z:D}{b1 b2 b3 b4 p q:Bool}(O:fa ρ=some (x,b1))(T:G ρ=some (y,b2))(U:M ρ=some (z,b3))(a:f1 x y=some (.bl p,b4))(e2:p=true->g1 y z=some (.bl q,false)):hZ f1 g1 fa G M ρ=some (.bl (p && q),false):=by
 unfold hZ;rw[O,T,U];simp  [vJ,a];cases p
 .rfl
 .exact e2 rfl
theorem df {f1 f2:FE}{p q b1:Bool}(G:f1 ρ=some (.bl p,b1))(e2:p=true->f2 ρ=some (.bl q,false)):iL f1 f2 ρ=some (.bl (p && q),false):=by
 unfold iL;rw[G];cases p
 .rfl
 .exact e2 rfl
theorem sM {f1 f2:FE}{p q b1:Bool}(G:f1 ρ=some (.bl p,b1))(e2:p=false->f2 ρ=some (.bl q,false)):Hb f1 f2 ρ=some (.bl (p || q),false):=by
 unfold Hb;rw[G];cases p
 .exact e2 rfl
 .rfl
theorem L5 {f1:FE}{p b1:Bool}(G:f1 ρ=some (.bl p,b1)):Hd f1 ρ=some (.bl (!p),false):=by
 unfold Hd;rw[G]
theorem aN (G:f ρ=some (d,b))(e2:M ρ=some xs):af f M ρ=some (d::xs):=by
 simp_all
theorem jh (G:fa ρ=some (x,b1))(e2:O ρ=some (y,b2))(M:op x y=z):f2 op fa O ρ=z:=by
 simp_all
theorem eP (G:M ρ=some p)(e2:p=true->c2 ρ=some q):fy M c2 ρ=some (p && q):=by
 unfold fy;rw[G];cases p
 .rfl
 .exact e2 rfl
theorem cD (G:M ρ=some p)(e2:p=false->c2 ρ=some q):dC M c2 ρ=some (p || q):=by
 unfold dC;rw[G];cases p
 .exact e2 rfl
 .rfl
theorem bJ (G:M ρ=some p):cf M ρ=some (!p):=by
 unfold cf;rw[G];rfl
end
theorem Gv (a c:Nat):decide ([a]<[c])=decide (a<c):=by
 simp_all[cons_lt_cons_iff]
@[simp] theorem DP (a c:Nat):qR (.str ⟨#[a]⟩) (.str ⟨#[c]⟩)=some (.bl (decide (a<=c)),false):=by
 grind[qR,Gv]
theorem bO (h:n<=100000):n<sizeLine:=lt_of_le_of_lt h V9
theorem dS (h:n<=100000):n<=sizeLine:=le_of_lt (bO h)
theorem gd {α:Type}(l:List α)(g:α->D)(p:α->Bool)(h:α->D)(e:fi ρ=some (l.map g))(hl:l.length<=100000)
  (k:∀x∈l,∃G,tg (g x) (cG nT cap ρ)=some G/\c G=some (p x)/\(p x=true->∃b,fe G=some (h x,b))):bM fi nT cap tg c fe ρ=some (.lst ((l.filter p).map h),true):=by
 have O:∀M:List α,(∀x∈M,x∈l)->iq tg c fe (cG nT cap ρ) (M.map g)=some ((M.filter p).map h):=by
  intro M;induction M with
  |nil=>simp
  |cons x M ih=>
   grind[mX,BP]
 unfold bM;rw[e,vJ,if_pos (dS (by simpa using hl)),O l λ_ h=>h,Option.map_some]
theorem iQ {α:Type}(l:List α)(g:α->D)(h:α->D)(e:fi ρ=some (l.map g))(hl:l.length<=100000)
  (k:∀x∈l,∃G,tg (g x) (cG nT cap ρ)=some G/\∃b,fe G=some (h x,b)):bM fi nT cap tg gm fe ρ=some (.lst (l.map h),true):=by
 have:=gd (c:=gm)  l g _ h e hl λx hx=>by
  obtain⟨G,h1,h2⟩:=k x hx;exact⟨G,h1,rfl,λ_=>h2⟩
 rw[List.filter_eq_self.mpr λ_ _=>rfl]at this;exact this
@[simp] theorem IE {α:Type}(f:α->Bool)(l:List α):ym (l.map λx=>.bl (f x))=some (l.map f):=by
 induction l with
 |nil=>rfl
 |cons x l ih=>simp[ih]
theorem BJ (h0:0<=i)(h:i.toNat<z.cps.size)(hz:z.length<=100000):bN (.str z) (.int i)=some (.str ⟨#[z.cps.toList.getD i.toNat 0]⟩,false):=by
 simp_all[dS,yE]
theorem OW (h0:0<=i)(h:i.toNat<ds.length):bN (.lst ds) (.int i)=some (ds.getD i.toNat .non,false):=by
 simp_all[yE]
theorem GH (h0:0<=i)(h:i.toNat<ds.length):bN (.tup ds) (.int i)=some (ds.getD i.toNat .non,false):=by
 simp_all[yE]
theorem DQ {xs:LI}{i:Int}(h0:0<=i)(h:i.toNat<xs.length):bN (.lst (xs.map .int)) (.int i)=some (.int (xs.getD i.toNat 0),false):=by
 rw[OW h0 (by simpa using h)];simp[h]
theorem FD (z:Str):zQ z=z.cps.toList.map λc=>.str ⟨#[c]⟩:=rfl
theorem mod_lt {x m:Int}(hm:0<m):0<=x % m/\x % m<m:=⟨Int.emod_nonneg _ M9,Int.emod_lt_of_pos _ hm⟩
theorem gQ:cH [.lst ds]=some (.int ds.length,false):=rfl
theorem bL (x y:D)(G:fa ρ=some (x,false))(e2:O ρ=some (y,false))(M:op x y=z):f2 op fa O ρ=z:=jh G e2 M
theorem dP (e:f ρ=some (.bl x,false)):aY f ρ=some x:=cU e
theorem bx (G:f ρ=some (d,false))(e2:M ρ=some xs):af f M ρ=some (d::xs):=aN G e2
theorem aI (ds:LD)(e:fa ρ=some ds)(k:F ds=x):fA F fa ρ=x:=ba e k
theorem gR (d:D)(e:f ρ=some (d,false))(n:bC d=true)(k:h (ρ.set i (some (d,false)))=r):a6 (aU i f) h ρ=r:=Cv e n k
@[simp] noncomputable abbrev rkE (aa:LD)(ae:Int)(t:Env):Env:=some (.tup aa,false)::some (.int ae,false)::t
@[simp] noncomputable abbrev eR (ns:LI)(zs:LS)(M:Int)(G:LS)(R:LD)(a b:OB)(t:Env):Env:=some (.lst (ns.map .int),false)::some (.lst (zs.map .str),false)::some (.int M,false)::a::some (.lst (G.map .str),true)::some (.lst R,true)::b::t
end DL
namespace Lw
open PySem DL
noncomputable def mF:D:=(.int 255)
noncomputable def sP:D:=(.int 9999)
noncomputable def l8:D:=(.int 9)
noncomputable def lA:D:=(.int 8)
noncomputable def mG:D:=(.int 20)
noncomputable def gS:D:=(.int 8)
noncomputable def jn:D:=(.int 60)
noncomputable def AA:D:=(.tup [(.str "paper"),(.str "like"),(.str "copy")])
noncomputable def ce:List (PySem.Str×D):=[(("root" : Str),(.tup [(.str "office"),(.str "matters"),(.str "further"),(.str "rule")])),(("named" : Str),(.tup [(.str "day"),(.str "office"),(.str "person")])),(("chosen" : Str),(.tup [(.str "day"),(.str "by"),(.str "office"),(.str "person"),(.str "since")])),(("heir" : Str),(.tup [(.str "day"),(.str "by"),(.str "office"),(.str "person")])),(("death" : Str),(.tup [(.str "day"),(.str "person")])),(("lost" : Str),(.tup [(.str "day"),(.str "person")])),(("found" : Str),(.tup [(.str "day"),(.str "person")])),(("leave" : Str),(.tup [(.str "day"),(.str "by"),(.str "person"),(.str "matters"),(.str "stretch"),(.str "further")])),(("paper" : Str),(.tup [(.str "day"),(.str "by"),(.str "matters"),(.str "stretch"),(.str "whom"),(.str "pieces")])),(("like" : Str),(.tup [(.str "day"),(.str "by"),(.str "matters"),(.str "stretch"),(.str "whom"),(.str "of"),(.str "changes")])),(("copy" : Str),(.tup [(.str "day"),(.str "by"),(.str "of")])),(("call" : Str),(.tup [(.str "day"),(.str "by"),(.str "of")]))]
noncomputable def iR:D:=(.tup [(.str "by"),(.str "person"),(.str "whom")])
noncomputable def DR:D:=(.tup [(.str "open"),(.str "first"),(.str "last")])
noncomputable def iS:D:=(.tup [(.str "chosen"),(.str "heir"),(.str "leave"),(.str "paper"),(.str "like"),(.str "copy"),(.str "call")])
def sQ:FS :=
  (aH (iL (fA bu (fV 0 (af (fC (.ty "int")) ai))) (iL (Hd (fA bu (fV 0 (af (fC (.ty "bool")) ai)))) (hZ qR qR (aj 1) (aj 0) (aj 2)))))
def fT:=aC sQ 3 0
def AB:FS :=
  (aH (fA fT (fV 0 (af (fI 0) (af (fC sP) ai)))))
def jL:=aC AB 1 0
def ou:FS :=
  (a6 (dc (dC (cf (aY (fA bu (fV 0 (af (fC (.ty "tuple")) ai))))) (dC (aY (f2 wt (fA cH (fV 0 ai)) (fI 2))) (cf (aY (fA jL (af (cP 0 0) ai)))))) (aH (fC (.bl false))) aV)
  (aH (Hb (f2 BS (cP 0 1) (fC .non)) (iL (fA jL (af (cP 0 1) ai)) (f2 Hh (cP 0 0) (cP 0 1))))))
def oy:=aC ou 1 0
def o0:FS :=
  (aH (fA fT (fV 0 (af (fI 1) (af (fC mF) ai)))))
def o3:=aC o0 1 0
def wR:FS :=
  (a6 (dc (dC (cf (aY (fA bu (fV 0 (af (fC (.ty "str")) ai))))) (cf (aY (hZ qR qR (fI 1) (fA cH (fV 0 ai)) (fC lA))))) (aH (fC (.bl false))) aV)
  (aH (fA BV (af (bM (bT (aj 0)) 1 [] (da 0) gm (hZ qR qR (fS "a") (aj 0) (fS "z"))) ai))))
def iE:=aC wR 1 0
def wS:FS :=
  (aH (iL (fA bu (fV 0 (af (fC (.ty "str")) ai))) (f2 rF (aj 0) (fC DR))))
def wT:=aC wS 1 0
def sR:FS :=
  (aH (fA iE (fV 0 ai)))
def ky:=aC sR 1 0
def qi:FS :=
  (a6 (dc (dC (cf (aY (fA bu (fV 0 (af (fC (.ty "tuple")) ai))))) (cf (aY (hZ qR qR (fI 1) (fA cH (fV 0 ai)) (fC gS))))) (aH (fC (.bl false))) aV)
  (aH (fA BV (af (bM (bT (aj 0)) 1 [] (da 0) gm (fA ky (fV 0 ai))) ai))))
def jo:=aC qi 1 0
def qj:FS :=
  (a6 (dc (dC (cf (aY (fA bu (fV 0 (af (fC (.ty "tuple")) ai))))) (aY (f2 wt (fA cH (fV 0 ai)) (fI 2)))) (aH (fC (.bl false))) aV)
  (aH (iL (fA fT (af (cP 0 0) (af (fI 0) (af (f2 Ot (fC gS) (fI 1)) ai)))) (fA ky (af (cP 0 1) ai)))))
def jp:=aC qj 1 0
def o4:FS :=
  (a6 (dc (dC (cf (aY (fA bu (fV 0 (af (fC (.ty "tuple")) ai))))) (cf (aY (fA BV (af (bM (bT (aj 0)) 1 [] (da 0) gm (fA jp (fV 0 ai))) ai))))) (aH (fC (.bl false))) aV)
  (a6 (aU 1 (bM (bT (aj 0)) 1 [] (da 0) gm (cP 0 0)))
  (aH (fA BV (af (bM (Fd (aj 1) (Gu (aj 1) (lu (fI 1)) m7)) 2 [] (wu [0,1]) gm (f2 Hh (aj 0) (aj 1))) ai)))))
def kB:=aC o4 1 1
def wU:FS :=
  (a6 (dc (dC (aY (f2 dz (aj 0) (fS "day"))) (aY (f2 dz (aj 0) (fS "since")))) (aH (fA jL (fV 1 ai))) aV)
  (a6 (dc (dC (aY (f2 dz (aj 0) (fS "office"))) (dC (aY (f2 dz (aj 0) (fS "by"))) (aY (f2 dz (aj 0) (fS "person"))))) (aH (fA iE (fV 1 ai))) aV)
  (a6 (dc (aY (f2 dz (aj 0) (fS "whom"))) (aH (Hb (f2 BS (aj 1) (fC .non)) (fA iE (fV 1 ai)))) aV)
  (a6 (dc (aY (f2 dz (aj 0) (fS "matters"))) (aH (fA o3 (fV 1 ai))) aV)
  (a6 (dc (aY (f2 dz (aj 0) (fS "stretch"))) (aH (fA oy (fV 1 ai))) aV)
  (a6 (dc (aY (f2 dz (aj 0) (fS "further"))) (aH (fA fT (fV 1 (af (fI 0) (af (fC l8) ai))))) aV)
  (a6 (dc (aY (f2 dz (aj 0) (fS "rule"))) (aH (fA wT (fV 1 ai))) aV)
  (a6 (dc (aY (f2 dz (aj 0) (fS "of"))) (aH (fA fT (fV 1 (af (fI 0) (af (f2 Ot (fC jn) (fI 1)) ai))))) aV)
  (a6 (dc (aY (f2 dz (aj 0) (fS "pieces"))) (aH (fA jo (fV 1 ai))) aV)
  (aH (fA kB (fV 1 ai))))))))))))
def eQ:=aC wU 2 0
def wV:FS :=
  (a6 (dc (dC (cf (aY (fA bu (fV 0 (af (fC (.ty "tuple")) ai))))) (dC (aY (f2 dz (fA cH (fV 0 ai)) (fI 0))) (cf (aY (fA bu (af (cP 0 0) (af (fC (.ty "str")) ai))))))) (aH (fC (.bl false))) aV)
  (a6 (dc (dC (aY (f1 (Cb ce) (cP 0 0))) (aY (f2 wt (fA cH (fV 0 ai)) (f2 cO (fI 1) (fA cH (af (f1 (vj ce) (cP 0 0)) ai)))))) (aH (fC (.bl false))) aV)
  (aH (fA BV (af (bM (Fd (f1 (vj ce) (cP 0 0)) (Gu (aj 0) (lu (fI 1)) m7)) 2 [] (wu [0,1]) gm (fA eQ (fV 0 (fV 1 ai)))) ai)))))
def pC:=aC wV 1 0
def wW:FS :=
  (aH (f2 bN (cP 0 1) (fI 0)))
def aG:=aC wW 1 0
def wZ:FS :=
  (aH (f2 bN (cP 0 1) (f2 cO (fI 1) (f2 (mW ce) (fA aG (fV 0 ai)) (aj 1)))))
def av:=aC wZ 2 0
def AD:FS :=
  (a6 (dc (aY (f2 dz (fA aG (fV 0 ai)) (fS "root"))) (aH (fC .non)) aV)
  (aH (fA av (fV 0 (af (fS "day") ai)))))
def aW:=aC AD 1 0
def qk:FS :=
  (a6 (aU 1 (fA aW (fV 0 ai)))
  (a6 (dc (aY (f2 BS (aj 1) (fC .non))) (aH (fC (.bl true))) aV)
  (a6 (dc (fy (aY (f2 dz (fA aG (fV 0 ai)) (fS "chosen"))) (aY (f2 Hh (fA av (fV 0 (af (fS "since") ai))) (aj 1)))) (aH (fC (.bl false))) aV)
  (aH (f2 qR (aj 1) (cP 0 0))))))
def lB:=aC qk 1 1
def AE:FS :=
  (a6 (dc (dC (cf (aY (fA bu (fV 0 (af (fC (.ty "tuple")) ai))))) (aY (f2 wt (fA cH (fV 0 ai)) (fI 2)))) (aH (fC (.bl false))) aV)
  (aH (iL (fA jL (af (cP 0 0) ai)) (iL (fA pC (af (cP 0 1) ai)) (fA lB (fV 0 ai))))))
def sU:=aC AE 1 0
def lC:FS :=
  (aH (bM (bT (aj 0)) 1 [] (da 0) (aY (f2 dz (fA aG (fV 0 ai)) (fS "root"))) (fA av (fV 0 (af (fS "office") ai)))))
def iT:=aC lC 1 0
def jM:FS :=
  (aH (iL (f2 dz (fA aG (fV 1 ai)) (fS "root")) (f2 rF (fA av (fV 1 (af (fS "office") ai))) (fA iT (fV 0 ai)))))
def gF:=aC jM 2 0
def sV:FS :=
  (aH (Wd (f1 (vj ce) (fA aG (fV 0 ai))) (Gu (cP 0 1) (lu (fI 1)) m7)))
def iU:=aC sV 1 0
def ql:FS :=
  (a6 (aU 1 (bM (bT (fA iU (fV 0 ai))) 2 [] (wu [0,1]) (fy (aY (f2 rF (aj 0) (fC iR))) (aY (f2 kg (aj 1) (fC .non)))) (aj 1)))
  (aH (f1 gY (aj 1))))
def jq:=aC ql 1 1
def kW:FS :=
  (Hz 1 (fA jq (fV 2 ai)))
def lD:FS :=
  (a6 (aU 1 (fA bQ ai))
  (a6 (my (bT (aj 0)) (da 2) kW)
  (aH (f1 D4 (aj 1)))))
def iV:=aC lD 1 2
def o5:FS :=
  (a6 (dc (dC (aY (f2 To (aj 1) (fC jn))) (cf (aY (fA sU (af (f2 bN (aj 0) (aj 1)) ai))))) (aH (fC (.bl true))) aV)
  (aH (Hb (fA gF (af (Gu (aj 0) m7 (lu (aj 1))) (af (f2 bN (aj 0) (aj 1)) ai))) (f2 Gs (fA iV (af (Gu (aj 0) m7 (lu (f2 cO (aj 1) (fI 1)))) ai)) (fC mG)))))
def kE:=aC o5 2 0
def lE:FS :=
  (dc (aY (fA kE (fV 1 (fV 2 ai)))) Ca aV)
def mH:FS :=
  (a6 (dc (cf (aY (fA y9 (fV 0 (af (fA aM (af (fC (.ty "list")) (af (fC (.ty "tuple")) ai))) ai))))) Ca aV)
  (a6 (aU 1 (fA rM (fV 0 ai)))
  (a6 (m6 (fj (fA cH (fV 1 ai))) (da 2) lE)
  (gU 1))))
def cF:=aC mH 1 2
def xa:FS :=
  (aH (iL (f2 qR (cP 1 0) (aj 0)) (Hb (f2 BS (cP 1 1) (fC .non)) (f2 Hh (aj 0) (cP 1 1)))))
def iF:=aC xa 2 0
def sW:FS :=
  (aH (iL (hZ qR Hh (fI 0) (aj 2) (fA cH (fV 0 ai))) (f2 qR (f2 bN (f2 bN (aj 0) (aj 2)) (fI 0)) (aj 1))))
def cK:=aC sW 3 0
def sX:FS :=
  (aH (iL (fA cK (fV 0 (fV 1 (fV 2 ai)))) (f2 rF (fA aG (af (f2 bN (aj 0) (aj 2)) ai)) (fC AA))))
def dI:=aC sX 3 0
def DS:FS :=
  (aH (bM (rO (aj 0)) 2 [1] (wu [0,1]) (aY (f2 qR (cP 1 0) (aj 2))) (aj 0)))
def dJ:=aC DS 2 0
def IF:FS :=
  (aH (fA aM (af (fA aW (af (f2 bN (aj 0) (aj 1)) ai)) (fV 1 ai))))
def fU:=aC IF 2 0
def sY:FS :=
  (a6 (aU 2 (bM (bT (fA dJ (fV 0 (fV 1 ai)))) 1 [0] (da 0) (aY (f2 kg (fA aW (af (f2 bN (aj 1) (aj 0)) ai)) (fC .non))) (aj 0)))
  (aH (sq (aj 2) (qM [0] (fA fU (fV 1 (fV 0 ai)))))))
def eF:=aC sY 2 1
def qm:FS :=
  (aH (fA aM (af (cP 0 0) (af (cP 0 2) (af (cP 0 4) ai)))))
def lF:=aC qm 1 0
def DT:FS :=
  (a6 (aU 2 (bM (bT (fA dJ (fV 0 (fV 1 ai)))) 1 [0] (da 0) gm (f2 bN (aj 1) (aj 0))))
  (aH (fA ko (af (bM (bT (aj 2)) 1 [] (da 0) (aY (f2 dz (fA aG (fV 0 ai)) (fS "root"))) (fA aM (af (fA av (fV 0 (af (fS "office") ai))) (fV 0 ai)))) ai))))
def gT:=aC DT 2 1
def DU:FS :=
  (aH (iL (f2 rF (fA aG (fV 0 ai)) (aj 1)) (iL (f2 dz (fA av (fV 0 (af (fS "person") ai))) (aj 2)) (f2 qR (fA aW (fV 0 ai)) (aj 3)))))
def qW:=aC DU 4 0
def xc:FS :=
  (aH (bM (bT (fA dJ (fV 0 (fV 1 ai)))) 1 [2,3,4,0] (da 0) (aY (fA qW (af (f2 bN (aj 4) (aj 0)) (fV 1 (fV 2 (fV 3 ai)))))) (aj 0)))
def iG:=aC xc 5 0
def DV:FS :=
  (aH (f2 dz (fA cH (af (fA iG (fV 0 (fV 1 (af (fA aM (af (fS "death") ai)) (fV 2 (fV 3 ai)))))) ai)) (fI 0)))
def o6:=aC DV 4 0
def sZ:FS :=
  (a6 (aU 4 (fA iG (fV 0 (fV 1 (af (fA aM (af (fS "lost") (af (fS "found") ai))) (fV 2 (fV 3 ai)))))))
  (a6 (dc (aY (f2 dz (fA cH (fV 4 ai)) (fI 0))) (aH (fC (.bl true))) aV)
  (aH (f2 dz (fA aG (af (f2 bN (aj 0) (Ax (aj 4) (qM [0] (fA fU (fV 1 (fV 0 ai)))))) ai)) (fS "found")))))
def nj:=aC sZ 4 1
def tj:FS :=
  (a6 (dc (dC (cf (aY (fA cK (fV 0 (fV 1 (fV 2 ai)))))) (aY (f2 gn (fA aG (af (f2 bN (aj 0) (aj 2)) ai)) (fC iS)))) (aH (fC (.bl false))) aV)
  (a6 (aU 3 (fA av (af (f2 bN (aj 0) (aj 2)) (af (fS "by") ai))))
  (a6 (aU 4 (fA aW (af (f2 bN (aj 0) (aj 2)) ai)))
  (aH (iL (fA o6 (fV 0 (fV 1 (fV 3 (fV 4 ai))))) (fA nj (fV 0 (fV 1 (fV 3 (fV 4 ai))))))))))
def gG:=aC tj 3 2
def tm:FS :=
  (aH (fA iF (fV 1 (af (fA aM (af (cP 0 2) (af (cP 0 3) ai))) ai))))
def dL:=aC tm 2 0
def tq:FS :=
  (aH (fA aM (af (cP 0 2) (af (cP 0 4) ai))))
def fW:=aC tq 1 0
def tu:FS :=
  (a6 (dc (aY (f2 dz (aj 1) (fS "last"))) (aH (f2 bN (Ax (aj 0) (y7 fW)) (fI 1))) aV)
  (aH (f2 bN (wK (aj 0) (y7 fW)) (fI 1))))
def nn:=aC tu 2 0
def qo:FS :=
  (a6 (aU 3 (bM (bT (aj 0)) 1 [2,1] (da 0) (fy (aY (f2 dz (cP 0 0) (fA av (fV 2 (af (fS "office") ai))))) (aY (fA dL (fV 0 (fV 1 ai))))) (aj 0)))
  (a6 (aU 4 (f1 gY (bM (bT (aj 3)) 1 [] (da 0) gm (cP 0 1))))
  (a6 (dc (aY (f2 dz (fA cH (fV 4 ai)) (fI 0))) (aH (fA aM (af (fS "none") ai))) aV)
  (a6 (dc (fy (aY (f2 Gs (fA cH (fV 4 ai)) (fI 1))) (aY (f2 dz (fA av (fV 1 (af (fS "rule") ai))) (fS "open")))) (aH (fA aM (af (fS "parted") (fV 4 ai)))) aV)
  (a6 (aU 5 (fA nn (fV 3 (af (fA av (fV 1 (af (fS "rule") ai))) ai))))
  (a6 (aU 6 (wK (bM (bT (aj 3)) 1 [5] (da 0) (aY (f2 dz (cP 0 1) (aj 1))) (aj 0)) (y7 fW)))
  (aH (fA aM (af (fS "one") (fV 5 (af (cP 6 4) ai)))))))))))
def jr:=aC qo 3 4
def o7:FS :=
  (aH (f2 dz (Gu (fA jr (fV 0 (fV 1 (fV 3 ai)))) m7 (lu (fI 2))) (fA aM (af (fS "one") (fV 2 ai)))))
def cY:=aC o7 4 0
def jN:FS :=
  (a6 (aU 3 (f2 bN (aj 0) (aj 2)))
  (a6 (aU 4 (fA iG (fV 0 (fV 1 (af (fA aM (af (fS "death") ai)) (af (fA av (fV 3 (af (fS "person") ai))) (af (fA aW (fV 3 ai)) ai)))))))
  (aH (f2 dz (wK (aj 4) (qM [0] (fA fU (fV 1 (fV 0 ai))))) (aj 2)))))
def gH:=aC jN 3 2
def AF:FS :=
  (a6 (aU 4 (f2 bN (aj 0) (aj 3)))
  (a6 (dc (aY (f2 dz (fA aG (fV 4 ai)) (fS "death"))) (aH (fA gH (fV 0 (fV 1 (fV 3 ai))))) aV)
  (a6 (dc (aY (f2 gn (fA aG (fV 4 ai)) (fA aM (af (fS "named") (af (fS "chosen") (af (fS "heir") ai)))))) (aH (fC (.bl false))) aV)
  (a6 (aU 5 (f2 OK (fA gT (fV 0 (fV 1 ai))) (fA av (fV 4 (af (fS "office") ai)))))
  (a6 (dc (aY (f2 BS (aj 5) (fC .non))) (aH (fC (.bl false))) aV)
  (a6 (dc (aY (f2 dz (fA aG (fV 4 ai)) (fS "named"))) (aH (fC (.bl true))) aV)
  (aH (iL (fA gG (fV 0 (fV 1 (fV 3 ai)))) (fA cY (fV 2 (fV 5 (af (fA av (fV 4 (af (fS "by") ai))) (af (fA aW (fV 4 ai)) ai)))))))))))))
def o8:=aC AF 4 2
def qp:FS :=
  (aH (fA aM (af (fA av (fV 0 (af (fS "office") ai))) (af (fA av (fV 0 (af (fS "person") ai))) (fV 1 (af (fC .non) (fV 2 ai)))))))
def hG:=aC qp 3 0
def t0:FS :=
  (dc (dC (aY (f2 gn (cP 5 0) (aj 1))) (dC (aY (f2 wt (cP 5 1) (aj 2))) (cf (dC (aY (fA dL (fV 5 (fV 3 ai)))) (aY (f2 Gs (cP 5 2) (aj 3))))))) (jW 4 (aj 5)) (dc (aY (f2 Hh (cP 5 2) (aj 3))) (jW 4 (fA aM (af (cP 5 0) (fV 2 (af (cP 5 2) (fV 3 (af (cP 5 4) ai))))))) aV))
def DW:FS :=
  (a6 (aU 4 (fA bQ ai))
  (a6 (my (bT (aj 0)) (da 5) t0)
  (gU 4)))
def qX:=aC DW 4 2
def lG:FS :=
  (a6 (aU 3 (fA av (fV 1 (af (fS "since") ai))))
  (a6 (aU 4 (fA qX (fV 0 (af (fA bQ (af (fA av (fV 1 (af (fS "office") ai))) ai)) (af (fA av (fV 1 (af (fS "by") ai))) (fV 3 ai))))))
  (aH (f2 cO (aj 4) (fA bQ (af (fA hG (fV 1 (fV 3 (fV 2 ai)))) ai))))))
def iW:=aC lG 3 2
def i7:FS :=
  (a6 (aU 9 (Im (aj 3) (fV 8 (fV 5 ai))))
  (dc (fy (aY (f2 kg (aj 9) (fC .non))) (aY (fA o6 (fV 0 (fV 1 (fV 9 (fV 6 ai))))))) (jW 7 (fA aM (fV 8 (fV 9 (fV 6 (af (fC .non) (fV 4 ai))))))) aV))
def qq:FS :=
  (a6 (aU 5 (fA av (af (f2 bN (aj 0) (aj 4)) (af (fS "person") ai))))
  (a6 (aU 6 (fA aW (af (f2 bN (aj 0) (aj 4)) ai)))
  (a6 (aU 7 (fA bQ ai))
  (a6 (O7 [5,6] (my (bT (f1 gY (bM (bT (aj 2)) 1 [5,6] (da 0) (fy (aY (f2 dz (cP 0 1) (aj 1))) (aY (fA dL (fV 0 (fV 2 ai))))) (cP 0 0)))) (da 8) i7))
  (gU 7)))))
def lH:=aC qq 5 5
def mI:FS :=
  (a6 (aU 5 (bM (bT (aj 2)) 1 [] (da 0) gm (cP 0 0)))
  (a6 (aU 6 (fA qX (fV 2 (fV 5 (af (fA av (af (f2 bN (aj 0) (aj 4)) (af (fS "person") ai))) (af (fA aW (af (f2 bN (aj 0) (aj 4)) ai)) ai))))))
  (aH (f2 cO (aj 6) (fA lH (fV 0 (fV 1 (fV 2 (fV 3 (fV 4 ai))))))))))
def j4:=aC mI 5 2
def mn:FS :=
  (a6 (aU 5 (f2 bN (aj 0) (aj 4)))
  (a6 (dc (cf (aY (fA o8 (fV 0 (fV 1 (fV 2 (fV 4 ai))))))) MP aV)
  (dc (aY (f2 dz (fA aG (fV 5 ai)) (fS "named"))) (aU 2 (f2 cO (aj 2) (fA bQ (af (fA hG (fV 5 (af (fA aW (fV 5 ai)) (fV 4 ai)))) ai)))) (dc (aY (f2 dz (fA aG (fV 5 ai)) (fS "chosen"))) (aU 2 (fA iW (fV 2 (fV 5 (fV 4 ai))))) (dc (aY (f2 dz (fA aG (fV 5 ai)) (fS "heir"))) (wO 3 (af (fA av (fV 5 (af (fS "office") ai))) (af (fA av (fV 5 (af (fS "by") ai))) ai)) (fA av (fV 5 (af (fS "person") ai)))) (aU 2 (fA j4 (fV 0 (fV 1 (fV 2 (fV 3 (fV 4 ai))))))))))))
def AG:FS :=
  (a6 (aU 2 (fA bQ ai))
  (a6 (HZ 3)
  (a6 (my (bT (fA eF (fV 0 (fV 1 ai)))) (da 4) mn)
  (aH (sq (aj 2) (y7 lF))))))
def t6:=aC AG 2 4
def t7:FS :=
  (aH (iL (fA cK (fV 0 (fV 1 (fV 2 ai)))) (f2 dz (fA aG (af (f2 bN (aj 0) (aj 2)) ai)) (fS "leave"))))
def gI:=aC t7 3 0
def t8:FS :=
  (aH (Hb (fA gI (fV 0 (fV 1 (fV 2 ai)))) (fA dI (fV 0 (fV 1 (fV 2 ai))))))
def eG:=aC t8 3 0
def t9:FS :=
  (aH (f2 dz (f2 Ro (aj 0) (aj 1)) (aj 1)))
def iX:=aC t9 2 0
def qr:FS :=
  (a6 (dc (cf (aY (fA iX (af (fA av (fV 1 (af (fS "matters") ai))) (af (fA av (fV 0 (af (fS "matters") ai))) ai))))) (aH (fS "matters")) aV)
  (a6 (dc (fy (aY (f2 dz (fA aG (fV 0 ai)) (fS "leave"))) (aY (f2 To (fA av (fV 0 (af (fS "further") ai))) (fA av (fV 1 (af (fS "further") ai)))))) (aH (fS "further")) aV)
  (aH (fC .non))))
def js:=aC qr 2 0
def o9:FS :=
  (a6 (dc (cf (aY (fA cY (fV 0 (fV 2 (af (fA av (fV 1 (af (fS "by") ai))) (af (fA aW (fV 1 ai)) ai))))))) (aH (fS "holder")) aV)
  (aH (fA js (fV 1 (fV 2 ai)))))
def iA:=aC o9 3 0
def lI:FS :=
  (a6 (aU 4 (f2 bN (aj 0) (aj 3)))
  (a6 (aU 5 (bM (sy (fA gT (fV 0 (fV 1 ai)))) 1 [2,4] (da 0) (aY (f2 BS (fA iA (fV 1 (fV 2 (fV 0 ai)))) (fC .non))) (aj 0)))
  (aH (bM (bT (aj 5)) 1 [2,4] (da 0) gm (fA aM (af (fS "office") (af (fA av (fV 0 (af (fS "office") ai))) (af (f2 bN (fA jr (fV 1 (fV 0 (af (fA aW (fV 2 ai)) ai)))) (fI 2)) ai))))))))
def iY:=aC lI 4 2
def mJ:FS :=
  (a6 (dc (aY (f2 BS (aj 1) (fC .non))) (aH (fC (.bl true))) aV)
  (aH (iL (f2 kg (aj 0) (fC .non)) (f2 qR (aj 0) (aj 1)))))
def j5:=aC mJ 2 0
def qs:FS :=
  (aH (iL (f2 qR (cP 1 0) (cP 0 0)) (fA j5 (af (cP 0 1) (af (cP 1 1) ai)))))
def jt:=aC qs 2 0
def tE:FS :=
  (aH (f2 Th (fA fU (fV 0 (fV 1 ai))) (fA fU (fV 0 (fV 2 ai)))))
def gJ:=aC tE 3 0
def qt:FS :=
  (a6 (aU 3 (f2 bN (aj 0) (aj 1)))
  (a6 (aU 4 (fA av (af (f2 bN (aj 0) (aj 2)) (af (fS "stretch") ai))))
  (a6 (dc (cf (aY (fA gJ (fV 0 (fV 2 (fV 1 ai)))))) (aH (fS "order")) aV)
  (a6 (dc (dC (cf (aY (fA iF (af (fA aW (fV 3 ai)) (fV 4 ai))))) (cf (aY (fA jt (af (fA av (fV 3 (af (fS "stretch") ai))) (fV 4 ai)))))) (aH (fS "days")) aV)
  (aH (fA js (fV 3 (af (f2 bN (aj 0) (aj 2)) ai))))))))
def lJ:=aC qt 3 2
def qu:FS :=
  (a6 (aU 3 (bM (bT (fA dJ (fV 0 (fV 1 ai)))) 1 [0,1] (da 0) (aY (fA gI (fV 1 (fV 2 (fV 0 ai))))) (aj 0)))
  (aH (bM (bT (aj 3)) 1 [2,0] (da 0) (aY (f2 dz (fA av (af (f2 bN (aj 2) (aj 0)) (af (fS "person") ai))) (aj 1))) (aj 0))))
def lK:=aC qu 3 1
def mK:FS :=
  (a6 (aU 3 (fA lK (fV 0 (fV 1 (af (fA av (af (f2 bN (aj 0) (aj 2)) (af (fS "by") ai))) ai)))))
  (aH (bM (bT (aj 3)) 1 [0,2] (da 0) (aY (f2 BS (fA lJ (fV 1 (fV 2 (fV 0 ai)))) (fC .non))) (fA aM (af (fS "leave") (fV 0 ai))))))
def j6:=aC mK 3 1
def oA:FS :=
  (a6 (aU 3 (fA av (af (f2 bN (aj 0) (aj 2)) (af (fS "of") ai))))
  (a6 (dc (fy (aY (fA dI (fV 0 (fV 1 (fV 3 ai))))) (aY (fA gJ (fV 0 (fV 3 (fV 2 ai)))))) (aH (fA bQ (af (fA aM (af (fS "copy") (fV 3 ai))) ai))) aV)
  (aH (fA bQ ai))))
def kF:=aC oA 3 1
def tF:FS :=
  (a6 (dc (cf (aY (fA eG (fV 0 (fV 1 (fV 3 ai)))))) (aH (fA bQ ai)) aV)
  (a6 (dc (aY (f2 dz (fA aG (af (f2 bN (aj 0) (aj 3)) ai)) (fS "copy"))) (aH (fA kF (fV 0 (fV 1 (fV 3 ai))))) aV)
  (a6 (aU 4 (f2 cO (fA iY (fV 0 (fV 1 (fV 2 (fV 3 ai))))) (fA j6 (fV 0 (fV 1 (fV 3 ai))))))
  (aH (Ct (aj 4) (qM [] (fA aM (af (f2 bN (aj 0) (f1 KY (fI 1))) (fV 0 ai)))))))))
def fX:=aC tF 4 1
def tG:FS :=
  (a6 (aU 5 (f2 bN (aj 0) (aj 4)))
  (a6 (aU 6 (fA av (af (f2 bN (aj 0) (aj 3)) (af (fS "by") ai))))
  (a6 (dc (aY (f2 dz (aj 6) (fA av (fV 5 (af (fS "by") ai))))) (aH (fC (.bl true))) aV)
  (a6 (dc (aY (f2 dz (fA aG (fV 5 ai)) (fS "copy"))) (aH (fC (.bl false))) aV)
  (a6 (aU 7 (bM (sy (fA gT (fV 0 (fV 1 ai)))) 1 [5] (da 0) (aY (fA iX (af (fA av (fV 0 (af (fS "matters") ai))) (af (fA av (fV 1 (af (fS "matters") ai))) ai)))) (aj 0)))
  (aH (fA Ho (af (bM (bT (aj 7)) 1 [2,6,0,3] (da 0) gm (fA cY (fV 1 (fV 0 (fV 2 (af (fA aW (af (f2 bN (aj 3) (aj 4)) ai)) ai)))))) ai))))))))
def no:=aC tG 5 3
def tH:FS :=
  (a6 (aU 6 (f2 bN (aj 0) (aj 3)))
  (a6 (dc (dC (aY (f2 wt (fA aG (fV 6 ai)) (fS "call"))) (dC (aY (f2 wt (fA av (fV 6 (af (fS "of") ai))) (aj 4))) (aY (f2 Gs (fA aW (fV 6 ai)) (aj 5))))) (aH (fC (.bl false))) aV)
  (aH (iL (fA gG (fV 0 (fV 1 (fV 3 ai)))) (fA no (fV 0 (fV 1 (fV 2 (fV 3 (fV 4 ai))))))))))
def kG:=aC tH 6 1
def tI:FS :=
  (a6 (dc (cf (aY (fA eG (fV 0 (fV 1 (fV 3 ai)))))) (aH (fA bQ ai)) aV)
  (aH (bM (bT (fA dJ (fV 0 (fV 1 ai)))) 1 [0,1,2,3,4] (da 0) (aY (fA kG (fV 1 (fV 2 (fV 3 (fV 0 (fV 4 (fV 5 ai)))))))) (aj 0))))
def np:=aC tI 5 0
def AH:FS :=
  (a6 (dc (dC (cf (aY (fA gG (fV 0 (fV 1 (fV 3 ai)))))) (aY (f2 Gs (fA aW (af (f2 bN (aj 0) (aj 3)) ai)) (aj 4)))) (aH (fC (.bl false))) aV)
  (aH (f2 dz (fA cH (af (fA np (fV 0 (fV 1 (fV 2 (fV 3 (fV 4 ai)))))) ai)) (fI 0))))
def oB:=aC AH 5 0
def AI:FS :=
  (dc (fy (aY (fA eG (fV 0 (fV 1 (fV 5 ai))))) (aY (fA oB (fV 0 (fV 1 (fV 3 (fV 5 (fV 2 ai)))))))) (sD 4 (aj 5) (fA fX (fV 0 (fV 1 (fV 3 (fV 5 ai)))))) aV)
def DX:FS :=
  (a6 (Dj 3 (fA t6 (fV 0 (fV 1 ai))))
  (a6 (DG 4)
  (a6 (my (bT (fA eF (fV 0 (fV 1 ai)))) (da 5) AI)
  (gU 4))))
def yH:=aC DX 3 3
def DY:FS :=
  (aH (Hb (f2 dz (cP 0 0) (fS "office")) (f2 Wc (cP 0 1) (aj 1))))
def qY:=aC DY 2 0
def AJ:FS :=
  (dc (aY (fA Ho (af (bM (bT (aj 3)) 1 [1] (da 0) gm (fA qY (fV 0 (fV 1 ai)))) ai))) (Az 1 (aj 2) (fC (.bl true))) aV)
def DZ:FS :=
  (a6 (DG 1)
  (a6 (my (DK (aj 0)) (wu [2,3]) AJ)
  (gU 1)))
def yI:=aC DZ 1 3
def tJ:FS :=
  (aH (fA A6 (af (fA yI (af (fA yH (fV 0 (fV 1 (fV 2 ai)))) ai)) ai)))
def iZ:=aC tJ 3 0
def ig:FS :=
  (aU 2 (f2 bN (aj 0) (fA av (fV 2 (af (fS "of") ai)))))
def lL:FS :=
  (a6 (aU 2 (f2 bN (aj 0) (aj 1)))
  (a6 (iJ (aY (f2 dz (fA aG (fV 2 ai)) (fS "copy"))) ig 1000)
  (gU 2)))
def eI:=aC lL 2 1
def xf:FS :=
  (a6 (aU 3 (bM (bT (fA iZ (fV 0 (fV 1 (fV 2 ai))))) 1 [0,1] (da 0) (aY (fA dI (fV 1 (fV 2 (fV 0 ai))))) (aj 0)))
  (aH (bM (bT (aj 3)) 1 [2,0] (da 0) (aY (fA iF (fV 1 (af (fA av (af (fA eI (fV 2 (fV 0 ai))) (af (fS "stretch") ai))) ai)))) (aj 0))))
def pD:=aC xf 3 1
def xg:FS :=
  (aH (fA av (af (fA eI (fV 0 (fV 1 ai))) (af (fS "whom") ai))))
def xh:=aC xg 2 0
def Ea:FS :=
  (a6 (dc (aY (f2 gn (aj 3) (fA pD (fV 0 (fV 1 (fV 2 ai)))))) (aH (fC (.bl false))) aV)
  (aH (Hb (f2 BS (aj 4) (fC .non)) (f2 rF (fA xh (fV 0 (fV 3 ai))) (fA aM (af (fC .non) (fV 4 ai)))))))
def kH:=aC Ea 5 0
def tK:FS :=
  (aH (IA (fA cH (fV 0 ai)) (qM [0] (fA aM (af (f2 bN (f2 bN (aj 1) (aj 0)) (fI 0)) (fV 0 ai))))))
def nq:=aC tK 1 0
def Eb:FS :=
  (aH (fA rM (af (bM (rO (aj 0)) 2 [1] (wu [0,1]) gm (fA aM (af (f2 (F9 U2) (aj 2) (aj 0)) (af (cP 1 1) ai)))) ai)))
def yJ:=aC Eb 2 0
def nu:FS :=
  (a6 (aU 9 (Qo kH (fV 4 (fV 7 (fV 1 (fV 2 ai))))))
  (a6 (dc (aY (f2 wt (aj 9) (aj 6))) (jW 5 (fA aM (fV 8 (fV 9 ai)))) aV)
  (aU 6 (aj 9))))
def xi:FS :=
  (a6 (aU 3 (fA nq (fV 0 ai)))
  (a6 (aU 4 (fA yJ (fV 0 (fV 3 ai))))
  (a6 (aU 5 (fA bQ ai))
  (a6 (aU 6 (fC (.bl false)))
  (a6 (O7 [3] (my (rO (aj 3)) (wu [7,8]) nu))
  (gU 5))))))
def mo:=aC xi 3 7
def AK:FS :=
  (a6 (dc (aY (f2 Hh (aj 1) (fA cH (fV 0 ai)))) (aH (f2 bN (aj 0) (aj 1))) aV)
  (a6 (aU 2 (f2 cO (f2 mz (fI 10007) (aj 1)) (fI 13)))
  (a6 (dc (aY (f2 Gs (fA cH (fV 0 ai)) (fI 0))) (aU 2 (f2 cO (f2 cO (f2 mz (f2 bN (aj 0) (f2 cw (f2 mz (aj 1) (fI 5)) (fA cH (fV 0 ai)))) (fI 69621)) (f2 mz (f2 mz (aj 1) (aj 1)) (fI 1009))) (fI 7))) aV)
  (aH (f2 cw (f2 OS (aj 2) (aj 2)) (fI 2147483629))))))
def jO:=aC AK 2 1
def tL:FS :=
  (a6 (aU 6 (fA yq (fV 2 ai)))
  (a6 (Le 6 (aj 3) (f2 bN (aj 1) (f2 cw (f2 cO (f2 cu (aj 0) (fI 64)) (f2 mz (fI 3) (aj 5))) (fI 26))))
  (jW 4 (f2 Dv (fS "") (aj 6)))))
def xj:FS :=
  (a6 (aU 1 (fS "abcdefghijklmnopqrstuvwxyz"))
  (a6 (aU 2 (bM (fj (f2 cO (fI 1) (f2 cw (aj 0) (fI 8)))) 1 [1,0] (da 0) gm (f2 bN (aj 1) (f2 cw (f2 cu (aj 2) (f2 cO (fI 3) (f2 mz (fI 4) (aj 0)))) (fI 26)))))
  (a6 (aU 3 (f2 cw (f2 cu (aj 0) (fI 8)) (fA cH (fV 2 ai))))
  (a6 (aU 4 (fA bQ ai))
  (a6 (m6 (fj (fI 7)) (da 5) tL)
  (gU 4))))))
def pE:=aC xj 1 6
def xl:FS :=
  (a6 (aU 3 (bM (bT (aj 0)) 1 [] (da 0) (aY (f2 rF (f2 bN (cP 0 1) (fI 0)) (fA aM (af (fS "leave") (af (fS "named") ai))))) (f2 bN (cP 0 1) (fI 3))))
  (a6 (dc (aY (f2 Gs (f2 cw (aj 1) (fI 5)) (fI 0))) (aH (f2 bN (aj 3) (f2 cw (f2 cu (aj 1) (fI 5)) (fA cH (fV 3 ai))))) aV)
  (aH (f2 bN (aj 2) (f2 cw (f2 cu (aj 1) (fI 5)) (fI 5))))))
def iH:=aC xl 3 1
def tM:FS :=
  (a6 (aU 5 (fA iH (fV 0 (fV 3 (fV 4 ai)))))
  (a6 (aU 6 (f2 bN (fA bQ (af (fI 7) (af (fI 7) (af (fI 3) (af (fI 5) (af (fI 1) (af (fI 2) ai))))))) (f2 cw (f2 cu (aj 3) (fI 40)) (fI 6))))
  (a6 (aU 7 (f2 bN (fA bQ (af (fA aM (af (fI 0) (af (fC .non) ai))) (af (fA aM (af (fI 0) (af (fI 30) ai))) (af (fA aM (af (fI 1) (af (fI 20) ai))) (af (fA aM (fV 2 (af (f2 cO (aj 2) (fI 8)) ai))) (af (fA aM (af (f2 cO (aj 2) (fI 1)) (af (fC .non) ai))) (af (fA aM (af (fI 3) (af (fI 12) ai))) ai))))))) (f2 cw (f2 cu (aj 3) (fI 240)) (fI 6))))
  (a6 (dc (aY (f2 dz (aj 1) (fS "leave"))) (a6 (aU 8 (f2 bN (aj 4) (f2 cw (f2 cO (f2 cO (f2 (F9 Tq) (aj 4) (aj 5)) (fI 1)) (f2 cw (f2 cu (aj 3) (fI 1440)) (fI 4))) (fI 5))))
  (aH (fA aM (af (fS "leave") (fV 2 (fV 5 (fV 8 (fV 6 (fV 7 (af (f2 bN (fA bQ (af (fI 3) (af (fI 2) (af (fI 2) (af (fI 1) (af (fI 0) ai)))))) (f2 cw (f2 cu (aj 3) (fI 5760)) (fI 5))) ai)))))))))) aV)
  (a6 (dc (aY (f2 dz (aj 1) (fS "paper"))) (aH (fA aM (af (fS "paper") (fV 2 (fV 5 (fV 6 (fV 7 (af (f2 bN (fA bQ (af (fC .non) (af (cP 4 0) ai))) (f2 cw (f2 cu (aj 3) (fI 1440)) (fI 2))) (af (fA aM (af (cP 4 1) (af (cP 4 2) ai))) ai))))))))) aV)
  (a6 (dc (aY (f2 dz (aj 1) (fS "like"))) (a6 (aU 9 (fA aM (af (fA aM (af (f2 cw (f2 cu (aj 3) (fI 1440)) (fI 3)) (af (cP 4 3) ai))) ai)))
  (aH (fA aM (af (fS "like") (fV 2 (fV 5 (fV 6 (fV 7 (af (fC .non) (af (f2 cw (f2 cu (aj 3) (fI 4320)) (f2 cO (fA cH (fV 0 ai)) (fI 1))) (fV 9 ai))))))))))) aV)
  (aH (fA aM (fV 1 (fV 2 (fV 5 (af (f2 cw (f2 cu (aj 3) (fI 1440)) (f2 cO (fA cH (fV 0 ai)) (fI 1))) ai))))))))))))
def nv:=aC tM 5 5
def Ec:FS :=
  (a6 (aU 3 (fA bQ (af (fS "leave") (af (fS "leave") (af (fS "leave") (af (fS "paper") (af (fS "paper") (af (fS "paper") (af (fS "copy") (af (fS "copy") (af (fS "like") (af (fS "call") (af (fS "call") (af (fS "chosen") ai))))))))))))))
  (a6 (aU 3 (f2 cO (aj 3) (fA bQ (af (fS "heir") (af (fS "death") (af (fS "lost") (af (fS "found") (af (fS "named") (af (fS "leave") (af (fS "paper") (af (fS "leave") ai)))))))))))
  (a6 (aU 4 (f2 bN (aj 3) (f2 cw (aj 1) (fI 20))))
  (a6 (aU 5 (f2 cO (f2 cu (fA cH (fV 0 ai)) (fI 2)) (f2 cw (f2 cu (aj 1) (fI 20)) (fI 3))))
  (a6 (aU 6 (f2 cO (aj 5) (f2 bN (fA bQ (af (fI 0) (af (fI 0) (af (fI 0) (af (fI 1) (af (fI 5) ai)))))) (f2 cw (f2 cu (aj 1) (fI 60)) (fI 5)))))
  (a6 (aU 7 (f2 cu (aj 1) (fI 300)))
  (a6 (dc (aY (f2 rF (aj 4) (fA aM (af (fS "leave") (af (fS "paper") (af (fS "like") (af (fS "copy") (af (fS "call") ai)))))))) (aH (fA aM (fV 6 (af (fA nv (fV 0 (fV 4 (fV 5 (fV 7 (fV 2 ai)))))) ai)))) aV)
  (a6 (dc (aY (f2 dz (aj 4) (fS "chosen"))) (a6 (aU 8 (fA iH (fV 0 (fV 7 (fV 2 ai)))))
  (aH (fA aM (fV 6 (af (fA aM (af (fS "chosen") (fV 5 (fV 8 (af (cP 2 5) (af (f2 bN (aj 2) (f2 cw (f2 cu (aj 7) (fI 40)) (fI 5))) (af (f2 cO (aj 5) (f2 cw (f2 cu (aj 7) (fI 200)) (fI 3))) ai))))))) ai))))) aV)
  (a6 (dc (aY (f2 dz (aj 4) (fS "heir"))) (aH (fA aM (fV 6 (af (fA aM (af (fS "heir") (fV 5 (af (fA iH (fV 0 (fV 7 (fV 2 ai)))) (af (cP 2 5) (af (f2 bN (aj 2) (f2 cw (f2 cu (aj 7) (fI 40)) (fI 5))) ai)))))) ai)))) aV)
  (a6 (dc (aY (f2 dz (aj 4) (fS "named"))) (aH (fA aM (fV 6 (af (fA aM (af (fS "named") (fV 5 (af (f2 bN (aj 2) (f2 cO (fI 5) (f2 cw (f2 cu (aj 7) (fI 5)) (fI 2)))) (af (f2 bN (aj 2) (f2 cw (f2 cu (aj 7) (fI 40)) (fI 5))) ai))))) ai)))) aV)
  (aH (fA aM (fV 6 (af (fA aM (fV 4 (fV 5 (af (f2 bN (aj 2) (f2 cw (f2 cu (aj 7) (fI 40)) (fI 5))) ai)))) ai))))))))))))))
def yK:=aC Ec 3 6
def pF:FS :=
  (jW 3 (fA yK (fV 3 (af (f2 cw (fA jO (fV 0 (af (f2 cO (fI 3) (aj 4)) ai))) (f2 Rn (fI 10) (fI 15))) (fV 2 ai)))))
def AL:FS :=
  (a6 (aU 1 (fA jO (fV 0 (af (fI 1) ai))))
  (a6 (aU 2 (fA pE (af (fA jO (fV 0 (af (fI 0) ai))) ai)))
  (a6 (aU 3 (fA bQ (af (fA aM (af (fI 0) (af (fA aM (af (fS "root") (af (cP 2 5) (af (f2 bN (fA bQ (af (fI 7) (af (fI 255) (af (fI 3) ai)))) (f2 cw (aj 1) (fI 3))) (af (fI 3) (af (f2 bN (fA bQ (af (fS "open") (af (fS "first") (af (fS "last") ai)))) (f2 cw (f2 cu (aj 1) (fI 3)) (fI 3))) ai)))))) ai))) ai)))
  (a6 (jW 3 (fA aM (af (fI 0) (af (fA aM (af (fS "named") (af (fI 0) (af (cP 2 5) (af (cP 2 0) ai))))) ai))))
  (a6 (dc (aY (f2 dz (f2 cw (f2 cu (aj 1) (fI 9)) (fI 2)) (fI 1))) (jW 3 (fA aM (af (fI 1) (af (fA aM (af (fS "root") (af (cP 2 6) (af (fI 7) (af (fI 1) (af (fS "open") ai)))))) ai)))) aV)
  (a6 (m6 (fj (f2 bN (fA bQ (af (fA Ow (af (fI 12) (af (f2 cO (fI 5) (f2 cu (fA cH (fV 0 ai)) (fI 3))) ai))) (af (fI 12) ai))) (f2 cw (f2 cu (aj 1) (fI 18)) (fI 2)))) (da 4) pF)
  (gU 3)))))))
def tN:=aC AL 1 4
def tO:FS :=
  (a6 (aU 10 (f2 bN (f2 bN (aj 0) (aj 9)) (fI 1)))
  (dc (aY (f2 rF (aj 9) (aj 3))) (jW 8 (fA aM (af (fI 9998) (fV 10 ai)))) (jW 8 (fA aM (af (fI 9999) (fV 10 ai))))))
def tP:FS :=
  (a6 (jW 3 (aj 7))
  (a6 (aU 8 (fA bQ ai))
  (a6 (m6 (fj (fA cH (fV 0 ai))) (da 9) tO)
  (a6 (aU 11 (Qo kH (af (fA cF (fV 8 ai)) (af (fI 9998) (fV 1 (fV 2 ai))))))
  (a6 (dc (aY (f2 wt (aj 11) (aj 4))) (jW 5 (fA aM (fV 7 (fV 11 ai)))) aV)
  (aU 4 (aj 11)))))))
def Ed:FS :=
  (a6 (aU 3 (fA bQ ai))
  (a6 (aU 4 (fC (.bl false)))
  (a6 (aU 5 (fA bQ ai))
  (a6 (O7 [9] (my (bT (fA fH (af (bM (fj (fA cH (fV 0 ai))) 1 [0] (da 0) gm (fA aM (af (f2 bN (f2 bN (aj 1) (aj 0)) (fI 0)) (fV 0 ai)))) ai))) (wu [6,7]) tP))
  (gU 5)))))
def yL:=aC Ed 3 9
def xm:FS :=
  (dc (dC (cf (aY (fA bu (fV 2 (af (fC (.ty "tuple")) ai))))) (dC (aY (fA bu (af (cP 2 0) (af (fC (.ty "bool")) ai)))) (cf (aY (fA bu (af (cP 2 1) (af (fC (.ty "bool")) ai))))))) (aH (fC (.bl false))) aV)
def AM:FS :=
  (a6 (dc (dC (cf (aY (fA bu (fV 0 (af (fC (.ty "list")) ai))))) (aY (f2 wt (aj 0) (aj 1)))) (aH (fC (.bl false))) aV)
  (a6 (my (bT (aj 0)) (da 2) xm)
  (aH (fC (.bl true)))))
def oC:=aC AM 2 1
def Cw:FS :=
  (a6 (aU 5 (fA jO (fV 0 (af (f2 cO (fI 20) (aj 4)) ai))))
  (a6 (aU 6 (f2 bN (aj 3) (f2 cw (aj 5) (fA cH (fV 3 ai)))))
  (a6 (aU 7 (f2 cw (f2 cu (aj 5) (fI 64)) (fI 14)))
  (a6 (aU 8 (fA yL (fV 1 (fV 7 (fV 6 ai)))))
  (a6 (aU 9 (fA mo (fV 2 (fV 7 (fV 6 ai)))))
  (a6 (dc (cf (aY (fA oC (fV 9 (fV 8 ai))))) (aH (fC (.bl false))) aV)
  (a6 (jW 9 (fA aM (af (fI 99) (af (fC (.bl true)) ai))))
  (dc (cf (aY (fA oC (af (fA mo (fV 2 (fV 7 (fV 6 ai)))) (fV 8 ai))))) (aH (fC (.bl false))) aV))))))))
def MX:FS :=
  (a6 (aU 1 (fA tN (fV 0 ai)))
  (a6 (aU 2 (fA cF (af (fA yq (fV 1 ai)) ai)))
  (a6 (aU 3 (f2 cO (bM (fj (fA cH (fV 1 ai))) 1 [1] (da 0) (aY (f2 rF (f2 bN (f2 bN (f2 bN (aj 1) (aj 0)) (fI 1)) (fI 0)) (fA aM (af (fS "paper") (af (fS "like") (af (fS "copy") ai)))))) (aj 0)) (fA bQ (af (fI 0) ai))))
  (a6 (m6 (fj (fI 2)) (da 4) Cw)
  (aH (fC (.bl true)))))))
def F_law:=aC MX 1 9
end Lw
namespace DL
open PySem L2
theorem kI:∀(n m:Nat)(d:D),n<=m->br n d=true->br m d=true
 |n,m,.non,_,_=>by simp
 |n,m,.bl _,_,_=>by simp
 |n,m,.int _,_,_=>by simp
 |n,m,.str _,_,_=>by simp
 |n,m,.ty _,_,h=>by cases n<;>simp  at h
 |n,m,.dk _ _,_,h=>by simp at h
 |n,m,.dt _ _,_,h=>by simp at h
 |0,m,.tup _,_,h=>by simp  at h
 |0,m,.lst _,_,h=>by simp  at h
 |n+1,0,_,h,_=>by lia
 |n+1,m+1,.tup ds,hl,h=>by
  simp  [br,all_eq_true]at h |-;exact λd hd=>kI n m d M9 (h d hd)
 |n+1,m+1,.lst ds,hl,h=>by
  simp  [br,all_eq_true]at h |-;exact λd hd=>kI n m d M9 (h d hd)
theorem pG:∀(ds:LD),(∀d∈ds,fu d d=true)->ls ds ds=true
 |[],_=>by simp  [ls]
 |d::ds,h=>by
  simp  [ls,h d mX];exact pG ds λe he=>h e (mZ _ he)
theorem tQ:∀(n:Nat)(d:D),br n d=true->fu d d=true
 |n,.non,_=>by simp
 |n,.bl _,_=>by simp
 |n,.int _,_=>by simp
 |n,.str _,_=>by simp
 |n,.ty _,h=>by cases n<;>simp  at h
 |n,.dk _ _,h=>by simp at h
 |n,.dt _ _,h=>by simp at h
 |0,.tup _,h=>by simp  at h
 |0,.lst _,h=>by simp  at h
 |n+1,.tup ds,h=>by
  simp  [br,all_eq_true]at h;exact pG ds λd hd=>tQ n d (h d hd)
 |n+1,.lst ds,h=>by
  simp  [br,all_eq_true]at h;exact pG ds λd hd=>tQ n d (h d hd)
end DL
namespace DL
@[simp] noncomputable abbrev sF (d:D):OB:=some (d,false)
@[simp] noncomputable abbrev lT (ds:LD):OB:=some (.lst ds,true)
@[simp] noncomputable abbrev sI (x:Int):OB:=some (.int x,false)
@[simp] noncomputable abbrev sS (x:PySem.Str):OB:=some (.str x,false)
@[simp] noncomputable abbrev sJ (x:LD):OB:=some (.tup x,false)
@[simp] noncomputable abbrev sL (x:LD):OB:=some (.lst x,false)
@[simp] noncomputable abbrev sO (x:Bool):OB:=some (.bl x,false)
theorem cL {r:OB}{d:D}{b:Bool}(h:Tr r d b=true:=by decide +kernel):r=some (d,b):=yF h
theorem eB {p q:Prop}[Decidable p](h:p)(n:decide p=false:=by decide +kernel):q:=absurd h (of_decide_eq_false n)
end DL
namespace Lw
open PySem DL L2
theorem Cy (d:D)(r:LD):pW (d::r) 0=some d:=by have:=kx (xs:=d::r) (j:=0) N9;simpa using this
theorem FF (d e:D)(r:LD):pW (d::e::r) 1=some e:=by have:=kx (xs:=d::e::r) (j:=1) N9;simpa using this
theorem XJ (d e f:D)(r:LD):pW (d::e::f::r) 2=some f:=by have:=kx (xs:=d::e::f::r) (j:=2) N9;simpa using this
noncomputable def dn (k:Str):Bool:=decide (k = "death") || decide (k = "lost") || decide (k = "found")
noncomputable def eJ (k:Str):Bool:=decide (k = "chosen") || decide (k = "heir") || decide (k = "leave") || decide (k = "paper") || decide (k = "like") || decide (k = "copy") || decide (k = "call")
structure DeedP (kind:Str)(ay:List D):Prop where
 flat:b8 ay=true
 plain:ay.all (br 5)=true
 three:dn kind=true->∃(day:Int)(p:Str),ay=[.int day,.str p]
 slg:eJ kind=true->∃(day:Int)(p:Str)(r:List D),ay=.int day::.str p::r
noncomputable def row (h:Int)(kind:Str)(ay:LD):D:=.tup [.int h,.tup (.str kind::ay)]
def pH (r:D):Prop:=∃h kind ay,r=row h kind ay/\DeedP kind ay
theorem pH.flat (h:pH r):bC r=true:=by obtain⟨a,k,ay,rfl,dp⟩:=h;simp[row,dp.flat]
theorem pH.plain (h:pH r):br 39 r=true:=by
 obtain⟨a,k,ay,rfl,dp⟩:=h;refine kI 7 39 _ V9 ?_;have:=dp.plain;simp_all[row]
theorem bH (h:∀d∈ds,bC d=true):b8 ds=true:=by
 induction ds with
 |nil=>rfl
 |cons d r ih=>simp_all
theorem eK (zs:LS):b8 (zs.map D.str)=true:=by
 induction zs with
 |nil=>rfl
 |cons a l ih=>simp[ih]
noncomputable def aJ:D->Int
 |.tup (.int h::_)=>h
 |_=>0
noncomputable def kindOf:D->Str
 |.tup [_,.tup (.str k::_)]=>k
 |_=>("" : Str)
noncomputable def aL:D->Int
 |.tup [_,.tup (_::.int d::_)]=>d
 |_=>0
noncomputable def xn (p:Str)(day:Int):LD->Bool
 |[.int d,.str q]=>decide (q=p) && decide (d<=day)
 |_=>false
def told (ws:LS)(p:Str)(day:Int):D->Bool
 |.tup [_,.tup (.str kind::ay)]=>decide (kind∈ws) && xn p day ay
 |_=>false
theorem dM (h:Int)(kind:Str)(ay:LD):aG [row h kind ay]=sS kind:=au rfl (aw (by simp[row,FF,Cy]))
theorem lM (h:dn k=true):k = "death" \/ k = "lost" \/ k = "found":=by
 unfold dn at h;lia
theorem nw (h:eJ k=true):k = "chosen" \/ k = "heir" \/ k = "leave" \/ k = "paper" \/ k = "like" \/ k = "copy" \/ k = "call":=by
 unfold eJ at h;lia
theorem L6 (h:dn k=true\/eJ k=true):mW ce (.str k) (.str "day")=sI 0:=by
 rcases h with h|h
 .rcases lM h with rfl|rfl|rfl<;>exact cL
 .rcases nw h with rfl|rfl|rfl|rfl|rfl|rfl|rfl<;>exact cL
theorem Cz (h:dn k=true):mW ce (.str k) (.str "person")=sI 1:=by
 rcases lM h with rfl|rfl|rfl<;>exact cL
theorem IG (h:dn k=true\/eJ k=true):dz (.str k) (.str "root")=sO false:=by
 rcases h with h|h
 .rcases lM h with rfl|rfl|rfl<;>exact cL
 .rcases nw h with rfl|rfl|rfl|rfl|rfl|rfl|rfl<;>exact cL
theorem bF {h:Int}{k:Str}{ay:LD}{part:Str}{i:Nat}{d:D}(hi:mW ce (.str k) (.str part)=sI i)(hd:ay[i]? = some d):av [row h k ay,.str part]=some (d,false):=by
 refine au rfl (aw ?_);refine bL (.tup (.str k::ay)) (.int (1+i)) (by simp[row,FF]) (bL _ _ rfl (bL _ _ (aI _ rfl (dM _ _ _)) rfl hi) N9) ?_;have G :=(vV hd).1;have:pW (.str k::ay) (1+(i:Int))=some d:=by
  have:=kx (xs:=(.str k:D)::ay) (j:=i+1) S9;grind
 simp[this]
theorem tR {h:Int}{k:Str}{ay:LD}{d:Int}{r:LD}(hk:dn k=true\/eJ k=true)(G:ay=.int d::r):aW [row h k ay]=sI d:=by
 subst G;refine au rfl (a9 (dP (bL _ _ (aI _ rfl (dM _ _ _)) rfl (IG hk))) (aw (aI _ rfl (bF  (L6 hk) rfl))))
theorem oD (k:Str)(ws:LS):Kd (.str k) (ws.map .str)=decide (k∈ws):=by
 induction ws with
 |nil=>simp[Kd]
 |cons w ws ih=>
  grind[Kd,z9]
theorem mq (ws:LS):(ws.map D.str).all jk=true:=by
 simp
theorem ja (k:Str)(ws:LS):rF (.str k) (.tup (ws.map .str))=sO (decide (k∈ws)):=by
 simp only[rF,iu,vJ,oD];rw[if_pos ⟨rfl,mq ws⟩]
theorem IH (M:pH r)(ws:LS)(hw:∀w∈ws,dn w=true)(p:Str)(day:Int):qW [r,.tup (ws.map .str),.str p,.int day]=sO (told ws p day r):=by
 obtain⟨h,kind,ay,rfl,dp⟩:=M;have G:f2 _ (fA _ (fV 0 ai)) (aj 1) [some (row h kind ay,false),sF _,sS p,sI day]=sF _ :=
  bL _ _ (aI _ rfl (dM _ _ _)) rfl (ja _ ws)
 have O:told ws p day (row h kind _)=(decide _ && xn p _ ay):=rfl;refine au rfl (aw (df  G λhk=>?_));have h3:=hw _ (Ss hk);obtain⟨d,q,rfl⟩:=dp.three h3;refine df (b1:=false) ?_ λ_=>?_
 .exact bL _ _ (aI _ rfl (bF  (Cz h3) rfl)) rfl N9
 .exact bL _ _ (aI _ rfl (tR (.inl h3) rfl)) rfl N9
theorem tS (ds:LD):rN ds=ds.zipIdx.map λx=>.tup [.int x.2,x.1]:=by
 unfold rN;apply ext_getElem?;intro i;simp;cases ds[i]?<;>simp
noncomputable def aq (aa:LD)(ae:Int):List (D×Nat):=aa.zipIdx.filter λx=>decide (aJ x.1<=ae)
theorem lN (aa:LD)(G:∀r∈aa,pH r)(hl:aa.length<=1000)(ae:Int):dJ [.tup aa,.int ae]=lT ((aq aa ae).map λx=>.int x.2):=by
 have hc:=gd (fi:=rO (aj 0)) (nT:=2) (cap:=[1]) (tg:=wu [0,1]) (c:=aY (f2 qR (cP 1 0) (aj 2))) (fe:=aj 0) (ρ:=[sJ aa,sI ae]) aa.zipIdx (λx=>.tup [.int x.2,x.1]) (λx=>decide (aJ x.1<=ae)) (λx=>.int x.2)
  (by simp[tS]) S9 λx hx=>by
   obtain⟨h,kind,ay,e,_⟩:=G _ (fst_mem_of_mem_zipIdx hx);refine⟨_,rfl,dP ?_,λ_=>⟨false,by simp[cG]⟩⟩;simp[cG,e,row,Cy,aJ]
 exact au rfl (aw hc)
def qN (aa:LD)(ae:Int)(ws:LS)(p:Str)(day:Int):List (D×Nat):=(aq aa ae).filter λx=>told ws p day x.1
theorem Ee (h:x∈qN aa ae ws p day):aa[x.2]? = some x.1/\told ws p day x.1=true:=by
 obtain⟨h1,h2⟩:=vN h;exact⟨(List.mk_mem_zipIdx_iff_getElem?  ).mp (vN h1).1,h2⟩
theorem bK {aa:LD}{i:Nat}{r:D}(h:aa[i]? = some r):pW aa (i:Int)=some r:=by
 obtain⟨G,e⟩:=vV h;rw[kx G,e]
theorem L7 (aa:LD)(ae:Int)(ws:LS)(p:Str)(day:Int):(qN aa ae ws p day).length<=aa.length:=by
 have h1:=vM (λx=>told ws p day x.1) (aq aa ae);have h2:=vM (λx=>decide (aJ x.1<=ae)) aa.zipIdx;rw[length_zipIdx]at h2;exact vR h1 h2
theorem yM (aa:LD)(G:∀r∈aa,pH r)(hl:aa.length<=1000)(ae:Int)(ws:LS)(hw:∀w∈ws,dn w=true)(p:Str)(day:Int):
  iG [.tup aa,.int ae,.tup (ws.map .str),.str p,.int day]=lT ((qN aa ae ws p day).map λx=>.int x.2):=by
 have hc:=gd (fi:=bT _) (nT:=1) (cap:=[2,3,4,0]) (tg:=da 0) (c:=aY (fA qW (af (f2 bN (aj 4) (aj 0)) (fV 1 (fV 2 (fV 3 ai)))))) (fe:=aj 0)
  (ρ:=[sJ aa,sF _,sJ (ws.map .str),sS p,sI day]) (aq aa ae) _ _ (λx=>.int x.2)
  (by
   show(fA dJ (fV 0 (fV 1 ai)) _).bind _=_;rw[aI _ rfl (lN aa G hl ae)];rfl) (by have:=vM (λx:D×Nat=>decide (aJ x.1<=ae)) aa.zipIdx;rw[length_zipIdx]at this;exact vR this M9) λx hx=>by
   have M :=(List.mk_mem_zipIdx_iff_getElem? (x:=x.1) (i:=x.2)).mp (vN hx).1;refine⟨_,rfl,dP (aI _ ?_ (IH (G _ (vL M)) ws hw p day)),λ_=>⟨false,by simp[cG]⟩⟩;have ha:=bK M;simp[cG,ha]
 exact au rfl (aw hc)
def kA (x:D×Nat):List At:=[.i (aL x.1),.i x.2]
def ge (a b:D×Nat):Bool:=decide (aL a.1<aL b.1\/(aL a.1=aL b.1/\(a.2:Int)<b.2))
def fY:D×Nat->List (D×Nat)->D×Nat
 |b,[]=>b
 |b,x::r=>if ge b x=true then fY x r else fY b r
def MY:List (D×Nat)->Option (D×Nat)
 |[]=>none
 |x::r=>some (fY x r)
theorem OX (a b c d:Int):bv [.i a,.i b] [.i c,.i d]=some (decide (a<c\/(a=c/\b<d))):=by
 rw[bv];by_cases h:a=c
 .simp_all[bv]
 simp_all
theorem C0 (a b:D×Nat):bv (kA a) (kA b)=some (ge a b):=OX _ _ _ _
theorem oE (l:List (D×Nat)):dj (l.map kA)=true:=by
 simp_all[dj,C0]
theorem pJ:∀(r:List (D×Nat))(b:D×Nat),qd (kA b,.int b.2) (r.map λx=>(kA x,D.int x.2))=.int (fY b r).2
 |[],b=>rfl
 |x::r,b=>by
  rw[uY,qd,fY];rw[C0];by_cases h:ge b x=true
  .rw[if_pos h,if_pos (by rw[h])];exact pJ r x
  .rw[if_neg h,if_neg (by simpa using h)];exact pJ r b
theorem tT:∀(r:List (D×Nat))(b:D×Nat),fY b r∈b::r
 |[],b=>by simp[fY]
 |x::r,b=>by
  rw[fY];split
  .exact mZ _ (tT r x)
  .rcases vP (tT r b)with h|h
   .rw[h];exact mX
   simp_all
theorem hJ {α:Type}{f:D->Option D}{g h:α->D}:∀(l:List α),(∀x∈l,f (g x)=some (h x))->kn f (l.map g)=some (l.map h)
 |[],_=>rfl
 |x::l,hx=>by
  rw[uY,kn,hx x mX,hJ l λy hy=>hx y (mZ _ hy)];rfl
theorem gf {α:Type}{g:α->D}{h:α->List At}:∀(l:List α),(∀x∈l,p6 (g x)=some (h x))->ee (l.map g)=some (l.map h)
 |[],_=>rfl
 |x::l,hx=>by
  rw[uY,ee,hx x mX,gf l λy hy=>hx y (mZ _ hy)];rfl
noncomputable def oF:LS:=[("lost" : Str),"found"]
theorem qw:∀w∈oF,dn w=true:=by
 intro w hw;rcases vP hw with rfl|hw
 .decide +kernel
 .rcases vP hw with rfl|hw
  .decide +kernel
  simp_all
def Ef (aa:LD)(ae:Int)(p:Str)(day:Int):Bool:=match MY (qN aa ae oF p day) with
 |none=>true
 |some b=>decide (kindOf b.1 = "found")
theorem tU (hw:∀w∈ws,dn w=true)(M:pH r)(O:told ws p day r=true):∃h k d,r=row h k [.int d,.str p]/\dn k=true/\k∈ws/\d<=day:=by
 obtain⟨h,kind,ay,rfl,dp⟩:=M;have G:(decide _ && xn p _ _)=true:=O;rw[vC]at G;have hm:=Ss G.1;obtain⟨d,q,rfl⟩:=dp.three (hw _ hm);have hq:(decide _ && decide _)=true:=G.2;rw[vC]at hq;have:=Ss hq.1;subst this;exact⟨h,kind,d,rfl,hw _ hm,hm,Ss hq.2⟩
theorem Eg {aa:LD}{i:Nat}{h d:Int}{k p:Str}(G:aa[i]? = some (row h k [.int d,.str p]))(h3:dn k=true):fU [.tup aa,.int i]=sJ [.int d,.int i]:=by
 have ha:=bK G;refine au rfl (aw (aI _ (aN   (aI [row h k [.int d,.str p]] (by simp[ha]) (tR (.inl h3) rfl)) rfl) I9))
theorem L8 (aa:LD)(a:∀r∈aa,pH r)(hl:aa.length<=1000)(ae:Int)(p:Str)(day:Int):nj [.tup aa,.int ae,.str p,.int day]=sO (Ef aa ae p day):=by
 have c:=yM aa a hl ae oF qw p day;have U:=L7 aa ae oF p day;have M:∀x∈qN aa ae oF p day,∃h k d,aa[x.2]? = some (row h k [.int d,.str p])/\x.1=row h k [.int d,.str p]/\dn k=true:=λx hx=>by
  obtain⟨O,g⟩:=Ee hx;obtain⟨h,k,d,e,h3,_⟩:=tU qw (a _ (vL O)) g;exact⟨h,k,d,by rw[O,e],e,h3⟩
 unfold Ef;generalize f:qN aa ae oF p day=sel at c M U |-;have G:fA iG (fV 0 (fV 1 (af (fA aM (af (fS "lost") (af (fS "found") ai))) (fV 2 (fV 3 ai))))) [sJ aa,sI ae,sS p,sI day,none]=lT (sel.map λx=>.int x.2) :=
  aI _ (by simp[oF,sizeLine]) c
 have T:b8 (sel.map λx=>D.int x.2)=true:=bH λd hd=>by obtain⟨x,_,rfl⟩:=vO hd;rfl
 cases sel with
 |nil=>exact au rfl (bV G T (bD (dP N9) (aw rfl)))
 |cons x r=>
  refine au rfl (bV G T (a9 (dP S9) (aw ?_)));obtain⟨h,k,d,O,e,h3⟩:=M (fY x r) (tT r x);have hb:kindOf (fY x r).1=k:=by rw[e];rfl
  show _=some (D.bl (decide _),false);rw[hb];refine bL (.str k) (.str "found") (aI [row h k [.int d,.str p]] (aN (d:=row h k [.int d,.str p]) (b:=false) (bL (.tup aa) (.int (fY x r).2) rfl ?_ (by simp[bK O])) rfl) (dM _ _ _)) rfl N9;have hm:∀ρ:DL.Env,ρ[0]? = some (sJ aa)->kn (qM [0] (fA fU (fV 1 (fV 0 ai))) ρ) ((x::r).map λx=>D.int x.2)=some ((x::r).map λx=>.tup [.int (aL x.1),.int x.2]):=λρ h0=>
   hJ (x::r) λy hy=>by
    obtain⟨h,k,d,O,e,h3⟩:=M y hy;have hd:aL y.1=d:=by rw[e];rfl
    rw[hd];show(fA fU _ _).map _=_;rw[aI [.tup aa,.int y.2] (by simp[cG,h0]) (Eg O h3)];rfl
  have hk:ee ((x::r).map λx=>D.tup [.int (aL x.1),.int x.2])=some ((x::r).map kA):=gf (x::r) λy _=>rfl;have hz:((x::r).map kA).zip ((x::r).map λx=>D.int x.2)=(kA x,.int x.2)::r.map λx=>(kA x,D.int x.2):=by
   rw[zip_map'];rfl
  unfold Ax OJ;show((some _).bind _)=_;simp only[vJ];rw[hm _ rfl];simp only[vJ];rw[hk];simp only[vJ];rw[if_pos (oE _),hz];simp only[pJ]
noncomputable def fm:LS:=[("death" : Str)]
theorem kJ:∀w∈fm,dn w=true:=by
 intro w hw;rcases vP hw with rfl|hw
 .decide +kernel
 simp_all
def tV (aa:LD)(ae:Int)(p:Str)(day:Int):Bool:=(qN aa ae fm p day).isEmpty
theorem AN (aa:LD)(M:∀r∈aa,pH r)(hl:aa.length<=1000)(ae:Int)(p:Str)(day:Int):o6 [.tup aa,.int ae,.str p,.int day]=sO (tV aa ae p day):=by
 have G:=yM _ M hl ae _ kJ p day;unfold tV;generalize qN _ _ _ p _=O at G |-;refine au rfl (aw (bL (.int ((O.map λx=>D.int x.2).length:Nat)) _ ?_ rfl ?_))
 .exact aI _ (aN   (aI _ (by simp[sizeLine,fm]) G) rfl) gQ
 .cases O<;>simp
  lia
noncomputable def dN:D->Str
 |.tup [_,.tup (_::_::.str p::_)]=>p
 |_=>("" : Str)
noncomputable def AQ:LS:=[("chosen" : Str),"heir","leave","paper","like","copy","call"]
theorem tW (k:Str):eJ k=decide (k∈AQ):=by
 simp_all[eJ,AQ,Bool.or_assoc]
theorem C1:iS=.tup (AQ.map .str):=rfl
theorem qx (k:Str)(ws:LS):gn (.str k) (.tup (ws.map .str))=sO (!decide (k∈ws)):=by
 simp only[gn,iu,vJ,oD];rw[if_pos ⟨rfl,mq ws⟩]
theorem II (h:eJ k=true):mW ce (.str k) (.str "by")=sI 1:=by
 rcases nw h with rfl|rfl|rfl|rfl|rfl|rfl|rfl<;>exact cL
def jb (aa:LD)(ae:Int)(r:D):Bool:=(decide (aJ r<=ae) && eJ (kindOf r)) && (tV aa ae (dN r) (aL r) && Ef aa ae (dN r) (aL r))
theorem lO {aa:LD}{i:Nat}{h:Int}{kind:Str}{ay:LD}(G:aa[i]? = some (row h kind ay))(ae:Int):cK [.tup aa,.int ae,.int i]=sO (decide (h<=ae)):=by
 have M :=(vV G).1;have ha:=bK G;refine au rfl (aw ?_);have:=df (f1:=hZ qR Hh (fI 0) (aj 2) (fA cH (fV 0 ai))) (f2:=f2 qR (f2 bN (f2 bN (aj 0) (aj 2)) (fI 0)) (aj 1)) (ρ:=[sJ aa,sI ae,sI i])  (q:=decide (h<=ae))
  (by
   refine(jK   (z:=.int aa.length)   (b3:=false) (b4:=false) (p:=true) (q:=true) rfl rfl N9 N9 λ_=>?_).trans rfl;simp;lia) λ_=>by simp[ha,row,Cy]
 exact this
theorem tX (aa:LD)(O:∀r∈aa,pH r)(hl:aa.length<=1000)(ae:Int){i:Nat}{r:D}(T:aa[i]? = some r):gG [.tup aa,.int ae,.int i]=sO (jb aa ae r):=by
 obtain⟨h,kind,ay,rfl,dp⟩:=O r (vL T);have hk:=lO T ae;have ha:=bK T;have M:∀(ρ:DL.Env),f2 bN (aj 0) (aj 2) ρ=some (row h kind ay,false)->fA aG (af _ ai) ρ=sS kind:=λρ e=>aI [row h kind ay] (aN e rfl) (dM _ _ _);have G:f2 bN (aj 0) (aj 2) [sJ aa,sI ae,sI i,none,none]=some (row h kind ay,false):=by simp[ha]
 have hc:(dC (cf (aY (fA cK (fV 0 (fV 1 (fV 2 ai)))))) (aY (f2 gn (fA aG (af (f2 bN (aj 0) (aj 2)) ai)) (fC iS)))) [sJ aa,sI ae,sI i,none,none]=some (!decide (h<=ae) || !eJ kind):=by
  refine cD (bJ (dP (aI _ rfl hk))) λ_=>dP (bL (.str kind) iS (M _ G) rfl ?_);rw[C1,tW];exact qx kind AQ
 have hs:jb aa ae (row h kind ay)=((decide (h<=ae) && eJ kind) && (tV aa ae (dN (row h kind ay)) (aL (row h kind ay)) && Ef aa ae (dN (row h kind ay)) (aL (row h kind ay)))):=rfl;cases hb:(decide (h<=ae) && eJ kind) with
 |false=>
  rw[hs,hb];refine au rfl (bD (hc.trans ?_) (aw rfl));rw[<-Bool.not_and,hb];rfl
 |true=>
  rw[hs,hb];rw[vC]at hb;obtain⟨day,p,U,rfl⟩:=dp.slg hb.2;rw[Bool.true_and];refine au rfl (a9 (hc.trans (by rw[hb.1,hb.2];rfl)) (gR (.str p) (aI _ (aN G rfl) (bF (i:=1) (II hb.2) rfl)) rfl (gR (.int day) (aI [row h kind (.int day::.str p::U)] (aN  (b:=false) (by simp[ha]) rfl) (tR (.inr hb.2) rfl)) rfl (aw ?_))));exact df (b1:=false) (aI _ N9 (AN aa O hl ae p day)) λ_=>aI _ N9 (L8 aa O hl ae p day)
inductive Cd:Str->List D->Prop
 |root (o r:Str) (m f:Int):Cd ("root" : Str) [.str o,.int m,.int f,.str r]
 |named (d:Int) (o p:Str):Cd ("named" : Str) [.int d,.str o,.str p]
 |chosen (d:Int) (b o p:Str) (s:Int):Cd ("chosen" : Str) [.int d,.str b,.str o,.str p,.int s]
 |heir (d:Int) (b o p:Str):Cd ("heir" : Str) [.int d,.str b,.str o,.str p]
 |three (k:Str) (hk:k = "death" \/ k = "lost" \/ k = "found") (d:Int) (p:Str):Cd k [.int d,.str p]
 |other (k:Str) (hk:k = "leave" \/ k = "paper" \/ k = "like" \/ k = "copy" \/ k = "call") (d:Int) (b:Str) (r:List D) (hf:b8 r=true) (hp:r.all (br 5)=true):Cd k (.int d::.str b::r)
theorem Cd.deed (h:Cd k r):DeedP k r:=by
 cases h with
 |root o rl m f=>exact⟨rfl,N9,λh=>eB h,λh=>eB h⟩
 |named d o p=>exact⟨rfl,N9,λh=>eB h,λh=>eB h⟩
 |chosen d b o p s=>exact⟨rfl,N9,λh=>eB h,λ_=>⟨d,b,_,rfl⟩⟩
 |heir d b o p=>exact⟨rfl,N9,λh=>eB h,λ_=>⟨d,b,_,rfl⟩⟩
 |three k hk d p=>exact⟨rfl,N9,λ_=>⟨d,p,rfl⟩,λh=>by lia⟩
 |other k hk d b r hf hp=>exact⟨by simp[hf],by simp_all,λh=>by rcases hk with rfl|rfl|rfl|rfl|rfl<;>exact eB h,λ_=>⟨d,b,r,rfl⟩⟩
def yN (r:D):Prop:=∃h k ay,r=row h k ay/\Cd k ay
theorem yN.rp (h:yN r):pH r:=by obtain⟨a,k,ay,rfl,d⟩:=h;exact⟨a,k,ay,rfl,d.deed⟩
def aZ (r:D):Bool:=decide (kindOf r = "root")
theorem Cd.day (h:Cd k r)(hk:k ≠ "root"):∃d q,r=.int d::q:=by
 cases h with
 |root=>exact absurd rfl hk
 |named d=>exact⟨d,_,rfl⟩
 |chosen d=>exact⟨d,_,rfl⟩
 |heir d=>exact⟨d,_,rfl⟩
 |three _ _ d=>exact⟨d,_,rfl⟩
 |other _ _ d=>exact⟨d,_,rfl⟩
theorem Cd.day_idx (h:Cd k r)(hk:k ≠ "root"):mW ce (.str k) (.str "day")=sI 0:=by
 cases h with
 |root=>exact absurd rfl hk
 |named=>exact cL
 |chosen=>exact cL
 |heir=>exact cL
 |three _ hh=>rcases hh with rfl|rfl|rfl<;>exact cL
 |other _ hh=>rcases hh with rfl|rfl|rfl|rfl|rfl<;>exact cL
theorem cr (e:f ρ=some (.str a,bb))(h:decide (a=b)=x):aY (f2 dz f (fS b)) ρ=some x:=by simp_all
def vv (r:D):D:=if aZ r=true then .non else .int (aL r)
theorem j7 (g:yN r):aG [r]=sS (kindOf r):=by
 obtain⟨h,k,ay,rfl,_⟩:=g;exact dM h k _
theorem tY (g:yN r):aW [r]=some (vv r,false):=by
 obtain⟨h,k,ay,rfl,d⟩:=g;unfold vv;by_cases hk:k = "root"
 .have:aZ (row h k ay)=true:=zh hk;rw[if_pos this];exact au rfl (bD (cr   (aI _ rfl (dM _ _ _)) (zh hk)) (aw rfl))
 .have:aZ (row h k ay)=false:=So hk;rw[if_neg (by rw[this];decide)];obtain⟨dd,q,rfl⟩:=d.day hk;exact au rfl (a9 (cr   (aI _ rfl (dM _ _ _)) (So hk)) (aw (aI _ rfl (bF  (d.day_idx hk) rfl))))
def hU (aa:LD):Prop:=aa.length<=60/\∀r∈aa,yN r
theorem hU.rp (g:hU aa):∀r∈aa,pH r:=λr G=>(g.2 r G).rp
theorem hU.le (g:hU aa):aa.length<=1000:=vR g.1 V9
theorem bA (h:x∈aq aa ae):aa[x.2]? = some x.1:=by
 obtain⟨h1,_⟩:=vN h;exact mem_zipIdx_iff_getElem?.mp h1
theorem cM (aa:LD)(ae:Int):(aq aa ae).length<=aa.length:=by
 have:=vM (λx=>decide (aJ x.1<=ae)) aa.zipIdx;rw[length_zipIdx]at this;exact this
theorem gt (aa:LD)(ae:Int):((aq aa ae).map (·.2)).Nodup:=by
 have h1:(aa.zipIdx.map (·.2)).Nodup:=by simp_all[List.nodup_range']
 exact List.Nodup.sublist (List.Sublist.map _ (filter_sublist)) h1
def dX (aa:LD)(ae:Int):List (D×Nat):=(aq aa ae).filter λx=>!aZ x.1
def RO (aa:LD)(ae:Int):List (D×Nat):=dR (λx=>cC (kA x)) (dX aa ae)
theorem C2 (h:cC (kA a)=cC (kA b)):a.2=b.2:=by
 have h:[aL _,(a.2:Int)]=[aL _,(b.2:Int)]:=h;lia
theorem L9 (ha:a∈aq aa ae)(hb:b∈aq aa ae)(h:a.2=b.2):a=b:=by
 have h1:=bA ha;have h2:=bA hb;rw[h,h2]at h1;exact Prod.ext (vK h1).symm h
theorem qy (g:hU aa)(ae:Int):eF [.tup aa,.int ae]=lT ((RO aa ae).map λx=>.int x.2):=by
 have hl:=g.1;have l:=cM aa ae;have M:∀x∈aq aa ae,pW aa (x.2:Int)=some x.1/\yN x.1:=λx hx=>⟨bK (bA hx),g.2 _ (vL (bA hx))⟩;have hc:=gd (fi:=bT (fA dJ (fV 0 (fV 1 ai)))) (nT:=1) (cap:=[0]) (tg:=da 0) (c:=aY (f2 kg (fA aW (af (f2 bN (aj 1) (aj 0)) ai)) (fC .non))) (fe:=aj 0) (ρ:=[sJ aa,sI ae,none]) (aq aa ae) (λx=>.int x.2) (λx=>!aZ x.1) (λx=>.int x.2)
  (by
   show(fA dJ (fV 0 (fV 1 ai)) _).bind _=_;rw[aI [.tup aa,.int ae] rfl (lN aa g.rp g.le ae)];rfl) M9 λx hx=>by
   obtain⟨ha,T⟩:=M x hx;refine⟨_,rfl,dP (bL (vv x.1) .non (aI [x.1] (by simp[cG,ha]) (tY T)) rfl ?_),λ_=>⟨false,by simp[cG]⟩⟩;unfold vv;split<;>simp_all
 have U :=hc;have i:b8 ((dX aa ae).map λx=>D.int x.2)=true:=bH λd hd=>by obtain⟨x,_,rfl⟩:=vO hd;rfl
 have m:(dX aa ae).length<=60:=vR (vM _ _) M9;have G:∀x∈dX aa ae,x∈aq aa ae/\aZ x.1=false:=λx hx=>by
  obtain⟨h1,h2⟩:=vN hx;lia
 have hm:∀ρ:DL.Env,ρ[0]? = some (sJ aa)->kn (qM [0] (fA fU (fV 1 (fV 0 ai))) ρ) ((dX aa ae).map λx=>.int x.2)=some _:=λρ h0=>
  hJ (dX aa ae) λx hx=>by
   obtain⟨h1,h2⟩:=G x hx;obtain⟨ha,T⟩:=M x h1;have hd:=tY T;unfold vv at hd;rw[h2,if_neg V9]at hd;have j:fU [.tup aa,.int x.2]=sJ [.int (aL x.1),.int x.2]:=au rfl (aw (aI [.int (aL x.1),.int x.2] (aN (d:=.int (aL x.1)) (b:=false) (aI [x.1] (by simp[ha]) hd) rfl) I9));show(fA fU _ _).map _=_;rw[aI [.tup aa,.int x.2] (by simp[cG,h0]) j];rfl
 have hk:ee ((dX aa ae).map λx=>D.tup [.int (aL x.1),.int x.2])=some ((dX aa ae).map kA):=gf _ λx _=>rfl;have hz:((dX aa ae).map kA).zip ((dX aa ae).map λx=>D.int x.2)=(dX aa ae).map λx=>(kA x,D.int x.2):=by rw[zip_map']
 have k:((dX aa ae).map (·.2)).Nodup:=List.Nodup.sublist (List.Sublist.map _ (filter_sublist)) (gt aa ae);have O:((dX aa ae).map kA).length<64/\dj ((dX aa ae).map kA)=true/\c9 ((dX aa ae).map kA)=true/\(((dX aa ae).map kA).map cC).Nodup:=by
  refine⟨by rw[vI];lia,oE _,?_,?_⟩
  .unfold c9;rw[Bool.or_eq_true];left;simp[all_eq_true,kA]
  .rw[uP];exact List.Pairwise.map _ (λa b h e=>h (C2 e)) (pairwise_map.mp k)
 refine au rfl (bV U i (aw ?_));show(sq (aj 2) _ _)=_;unfold sq;show((some (D.lst ((dX aa ae).map λx=>D.int x.2),false)).bind _)=_;simp only[vJ];rw[hm _ rfl];simp only[vJ];rw[hk];simp only[vJ];rw[if_pos O];unfold gZ;rw[hz];have f:((RO aa ae).map λx=>(kA x,D.int x.2))=dR (λp:List At×D=>cC p.1) ((dX aa ae).map λx=>(kA x,D.int x.2)):=by
  refine jH _ (λx hx y hy e=>?_) ((bp _ _).map _) ?_
  .obtain⟨a,ha,rfl⟩:=vO hx;obtain⟨b,hb,rfl⟩:=vO hy;rw[L9 (G a ha).1 (G b hb).1 (C2 e)]
  .exact pairwise_map.mpr (iO _ _)
 rw[<-f,uP];rfl
structure Cl where
 o:Str
 p:Str
 s:Int
 u:Option Int
 n:Nat
noncomputable def uD:OI->D
 |none=>.non
 |some x=>.int x
def b7 (c:Cl):D:=.tup [.str c.o,.str c.p,.int c.s,uD c.u,.int c.n]
theorem Eh (u:OI):bC (uD u)=true:=by cases u<;>rfl
theorem oG (c:Cl):bC (b7 c)=true:=by simp[b7,Eh]
theorem jP (cs:List Cl):b8 (cs.map b7)=true:=by grind[bH,oG]
noncomputable def jc (c:Cl)(day:Int):Bool:=decide (c.s<=day) && (match c.u with|none=>true|some x=>decide (day<x))
theorem XM (d e f g:D)(r:LD):pW (d::e::f::g::r) 3=some g:=by have:=kx (xs:=d::e::f::g::r) (j:=3) N9;simpa using this
theorem XN (d e f g h:D)(r:LD):pW (d::e::f::g::h::r) 4=some h:=by have:=kx (xs:=d::e::f::g::h::r) (j:=4) N9;simpa using this
theorem Ts (c:Cl):bN (b7 c) (.int 0)=sS c.o:=by simp[b7,Cy]
theorem Qp (c:Cl):bN (b7 c) (.int 1)=sS c.p:=by simp[b7,FF]
theorem Wf (c:Cl):bN (b7 c) (.int 2)=sI c.s:=by simp[b7,XJ]
theorem XO (c:Cl):bN (b7 c) (.int 3)=some (uD c.u,false):=by simp[b7,XM]
theorem Wg (c:Cl):bN (b7 c) (.int 4)=sI c.n:=by simp[b7,XN]
theorem bG (ds:LD)(h:ds.length<=100):aM ds=sJ ds:=if_pos (dS M9)
theorem dh (ds:LD)(h:ds.length<=100):bQ ds=lT ds:=if_pos (dS M9)
theorem yO (s day:Int)(u:OI):iF [.int day,.tup [.int s,uD u]]=sO (decide (s<=day) && (match u with|none=>true|some x=>decide (day<x))):=by
 refine au rfl (aw (df (b1:=false) (by simp[Cy]) λ_=>?_));cases u with
 |none=>rfl
 |some x=>rfl
theorem tZ (c:Cl)(day:Int):dL [b7 c,.int day]=sO (jc c day) :=
 au rfl (aw (aI _ (bx rfl (bx (aI _ (aN (bL _ _ rfl rfl (Wf c)) (aN (bL _ _ rfl rfl (XO c)) rfl)) (bG _ N9)) rfl)) (yO _ _ _)))
noncomputable def kS (c:Cl):List At:=[.i c.s,.i c.n]
def pK:Cl->List Cl->Cl
 |b,[]=>b
 |b,x::r=>if bv (kS x) (kS b)=some true then pK x r else pK b r
def yP:Cl->List Cl->Cl
 |b,[]=>b
 |b,x::r=>if bv (kS b) (kS x)=some true then yP x r else yP b r
theorem ua:∀(r:List Cl)(b:Cl),qe (kS b,b7 b) (r.map λx=>(kS x,b7 x))=b7 (pK b r)
 |[],b=>rfl
 |x::r,b=>by
  rw[uY,qe,pK];split
  .exact ua r x
  .exact ua r b
theorem ub:∀(r:List Cl)(b:Cl),qd (kS b,b7 b) (r.map λx=>(kS x,b7 x))=b7 (yP b r)
 |[],b=>rfl
 |x::r,b=>by
  rw[uY,qd,yP];split
  .exact ub r x
  .exact ub r b
theorem Ei (cs:List Cl):dj (cs.map kS)=true:=by
 simp_all[dj,kS,OX]
theorem uc (ρ:DL.Env)(cs:List Cl):kn (y7 fW ρ) (cs.map b7)=some (cs.map λc=>.tup [.int c.s,.int c.n]):=hJ cs λc _=>by
 rfl
theorem qz (cs:List Cl):ee (cs.map λc=>D.tup [.int c.s,.int c.n])=some (cs.map kS):=gf cs λc _=>rfl
theorem IJ (e:f ρ=some (.lst ((b::r).map b7),bb)):wK f (y7 fW) ρ=some (b7 (pK b r),false):=by
 unfold wK OJ;rw[e,vJ];dsimp;rw[uc,vJ,qz,vJ,if_pos (Ei _)];have:((b::r).map kS).zip ((b::r).map b7)=(kS b,b7 b)::r.map λx=>(kS x,b7 x):=by rw[zip_map'];rfl
 rw[this];show some _=_;rw[ua]
theorem OY (e:f ρ=some (.lst ((b::r).map b7),bb)):Ax f (y7 fW) ρ=some (b7 (yP b r),false):=by
 unfold Ax OJ;rw[e,vJ];dsimp;rw[uc,vJ,qz,vJ,if_pos (Ei _)];have:((b::r).map kS).zip ((b::r).map b7)=(kS b,b7 b)::r.map λx=>(kS x,b7 x):=by rw[zip_map'];rfl
 rw[this];show some _=_;rw[ub]
def kK (rl:Str)(b:Cl)(r:List Cl):Cl:=if rl = "last" then yP b r else pK b r
theorem IK (rl:Str)(b:Cl)(r:List Cl):nn [.lst ((b::r).map b7),.str rl]=sS (kK rl b r).p:=by
 unfold kK;by_cases h:rl = "last"
 .rw[if_pos h];exact au rfl (bD (cr   rfl (zh h)) (aw (bL _ _ (OY  rfl) rfl (Qp _))))
 .rw[if_neg h];exact au rfl (a9 (cr   rfl (So h)) (aw (bL _ _ (IJ  rfl) rfl (Qp _))))
theorem ud:∀(r:List Cl)(b:Cl),pK b r∈b::r
 |[],b=>by simp[pK]
 |x::r,b=>by
  rw[pK];split
  .exact mZ _ (ud r x)
  .rcases vP (ud r b)with h|h
   .rw[h];exact mX
   simp_all
theorem ue:∀(r:List Cl)(b:Cl),yP b r∈b::r
 |[],b=>by simp[yP]
 |x::r,b=>by
  rw[yP];split
  .exact mZ _ (ue r x)
  .rcases vP (ue r b)with h|h
   .rw[h];exact mX
   simp_all
theorem FH (rl:Str)(b:Cl)(r:List Cl):kK rl b r∈b::r:=by
 grind[kK,ue,ud]
noncomputable def RP (cs:List Cl)(o:Str)(day:Int):List Cl:=cs.filter λc=>decide (c.o=o) && jc c day
def pL (cs:List Cl):LS:=mC (gX (cs.map (·.p)))
def RQ:List Cl->Nat
 |[]=>0
 |b::r=>(pK b r).n
def q8 (rl:Str):List Cl->D
 |[]=>.tup [.str "none"]
 |b::r=>if 1<(pL (b::r)).length/\rl = "open" then .tup [.str "parted",.lst ((pL (b::r)).map .str)]
  else .tup [.str "one",.str (kK rl b r).p,.int (RQ ((b::r).filter λc=>decide (c.p=(kK rl b r).p)))]
def kX (cs:List Cl)(o rl:Str)(day:Int):D:=q8 rl (RP cs o day)
theorem LA {z:Str}:gX (z::zs)≠[]:=by
 have:∀(ss:List _)(G:List _),z∈G->z∈ss.foldl kZ G:=λss=>by
  induction ss with
  |nil=>intro G h;exact h
  |cons a l ih=>intro G h;exact ih _ (Aa.mpr (.inl h))
 grind[kZ,gX]
theorem qA:av [row h ("root" : Str) [.str o,.int m,.int f,.str rl],.str "office"]=sS o:=bF (i:=0) cL rfl
theorem FI:av [row h ("root" : Str) [.str o,.int m,.int f,.str rl],.str "rule"]=sS rl:=bF (i:=3) cL rfl
theorem oH (zs:LS):ga (zs.map .str)=some zs:=by
 simp
theorem oJ (cs:List Cl)(hl:cs.length<=60)(day:Int):jr [.lst (cs.map b7),row h ("root" : Str) [.str o,.int m,.int f,.str rl],.int day]=some (kX cs o rl day,false):=by
 let rt:D:=row h ("root" : Str) [.str o,.int m,.int f,.str rl];have h1:=gd (fi:=bT (aj 0)) (nT:=1) (cap:=[2,1]) (tg:=da 0) (c:=fy (aY (f2 dz (cP 0 0) (fA av (fV 2 (af (fS "office") ai))))) (aY (fA dL (fV 0 (fV 1 ai))))) (fe:=aj 0)
  (ρ:=[sL (cs.map b7),some (rt,false),sI day,none,none,none,none]) cs b7 (λc=>decide (c.o=o) && jc c day) b7 N9 M9 λc hc=>by
   refine⟨_,rfl,eP (dP (bL (.str c.o) (.str o) (bL (b7 c) (.int 0) (by simp[cG]) rfl (Ts c)) (aI [rt,.str "office"] (by simp[cG]) qA) N9)) λ_=>dP (aI [b7 c,.int day] (by simp[cG]) (tZ c day)),λ_=>⟨false,by simp[cG]⟩⟩
 have T:bM (bT (aj 0)) 1 [2,1] (da 0) _ (aj 0) _=lT ((RP cs o day).map b7):=h1;have d:(RP cs o day).length<=60:=vR (vM _ _) hl;unfold kX;generalize RP cs o day=al at T d;have h2:∀ρ:DL.Env,ρ[3]? = some (lT (al.map b7))->f1 gY (bM (bT (aj 3)) 1 [] (da 0) gm (cP 0 1)) ρ=lT ((pL al).map .str):=λρ h3=>by
  have hc:=iQ (fi:=bT (aj 3)) (nT:=1) (cap:=[]) (tg:=da 0) (fe:=cP 0 1) (ρ:=ρ) al b7 (λc=>.str c.p) (by simp[h3]) M9 λc hc=>⟨_,rfl,false,bL (b7 c) (.int 1) (by simp[cG]) rfl (Qp c)⟩;have e2:al.map (λc=>D.str c.p)=(al.map (·.p)).map .str:=by rw[uP];rfl
  rw[e2]at hc;unfold f1;rw[hc,vJ];show(ga ((al.map (·.p)).map .str)).bind _=_;rw[oH,vJ,if_pos (by rw[vI];lia)];rfl
 have g:b8 ((pL al).map D.str)=true:=eK _;refine au rfl (bV (ds:=al.map b7) T (jP al) (bV (ds:=(pL al).map .str) (h2 _ rfl) g ?_));cases al with
 |nil=>rfl
 |cons b r=>
  have i:(pL (b::r)).length≠0:=by
   unfold pL;rw[(dH _).length_eq];grind[LA]
  refine a9 (dP (by simp[i])) ?_;have G:∀ρ:DL.Env,ρ[1]? = some (some (rt,false))->fA av (fV 1 (af (fS "rule") ai)) ρ=sS rl:=λρ j=>aI [rt,.str "rule"] (by simp[j]) FI;by_cases hp:1<(pL (b::r)).length/\rl = "open"
  .have:q8 rl (b::r)=.tup [.str "parted",.lst ((pL (b::r)).map .str)]:=by rw[q8,if_pos hp]
   rw[this];exact bD (eP (p:=true) (q:=true) (dP S9) λ_=>cr (bb:=false) (G _ rfl) (zh hp.2)) (aw (aI [.str "parted",.lst ((pL (b::r)).map .str)] N9 (bG _ N9)))
  .have:q8 rl (b::r)=.tup [.str "one",.str (kK rl b r).p,.int (RQ ((b::r).filter λc=>decide (c.p=(kK rl b r).p)))]:=by rw[q8,if_neg hp]
   rw[this];have M:fy (aY (f2 Gs (fA cH (fV 4 ai)) (fI 1))) (aY (f2 dz (fA av (fV 1 (af (fS "rule") ai))) (fS "open"))) [sL (cs.map b7),some (rt,false),sI day,lT ((b::r).map b7),lT ((pL (b::r)).map .str),none,none]=some false:=by
    by_cases h5:1<(pL (b::r)).length
    .exact eP (p:=true) (q:=false) (dP S9) λ_=>cr (bb:=false) (G _ rfl) (So λe=>hp ⟨h5,e⟩)
    .exact eP (p:=false) (q:=false) (dP S9) N9
   have U:=FH rl b r;let ch:=kK rl b r;have a:=gd (fi:=bT (aj 3)) (nT:=1) (cap:=[5]) (tg:=da 0) (c:=aY (f2 dz (cP 0 1) (aj 1))) (fe:=aj 0) (ρ:=[sL (cs.map b7),some (rt,false),sI day,lT ((b::r).map b7),lT ((pL (b::r)).map .str),sS ch.p,none]) (b::r) b7 (λc=>decide (c.p=ch.p)) b7 N9 M9 λc hc=>⟨_,rfl,dP (bL (.str c.p) (.str ch.p) (bL (b7 c) (.int 1) (by simp[cG]) rfl (Qp c)) (by simp[cG]) N9),λ_=>⟨false,by simp[cG]⟩⟩;obtain⟨b2,O,hf⟩:∃b2 O,(b::r).filter (λc=>decide (c.p=ch.p))=b2::O:=by
    cases hq:(b::r).filter (λc=>decide (c.p=ch.p)) with
    |nil=>
     have:=List.filter_eq_nil_iff.mp hq _ U;simp[ch]at this
    |cons b2 O=>exact⟨b2,O,rfl⟩
   rw[hf]at a |-;refine a9 M (gR (.str ch.p) (aI [.lst ((b::r).map b7),.str rl] (bx N9 (aN (G _ rfl) rfl)) (IK rl b r)) rfl (gR (b7 (pK b2 O)) (IJ (bb:=true) a) (oG _) (aw (aI [.str "one",.str ch.p,.int (pK b2 O).n] (bx rfl (bx rfl (aN (bL (b7 (pK b2 O)) (.int 4) rfl rfl (Wg _)) rfl))) (bG _ N9)))))
def MZ:D->D
 |.tup ds=>.tup (qJ ds none (some 2))
 |d=>d
def jd (cs:List Cl)(o rl p:Str)(day:Int):Bool:=fu (MZ (kX cs o rl day)) (.tup [.str "one",.str p])
theorem FJ (rl:Str)(G:List Cl):∃ds,q8 rl G=.tup ds/\ds.all (br 5)=true:=by
 cases G with
 |nil=>exact⟨_,rfl,N9⟩
 |cons b r=>
  rw[q8];split
  .simp
  .exact⟨_,rfl,N9⟩
theorem IL (h:ds.all (br 5)=true):(qJ ds lo hi).all (br 5)=true:=by
 rw[all_eq_true]at h |-;exact λd hd=>h d (List.mem_of_mem_drop (mem_of_mem_take hd))
theorem xo (h:ds.all (br 5)=true):br 40 (.tup ds)=true:=kI 6 40 _ V9 (by simpa only[br]using h)
theorem yQ (cs:List Cl)(hl:cs.length<=60)(p:Str)(day:Int):cY [.lst (cs.map b7),row h ("root" : Str) [.str o,.int m,.int f,.str rl],.str p,.int day]=sO (jd cs o rl p day):=by
 have hb:=oJ cs hl (h:=h) (o:=o) (rl:=rl) (m:=m) (f:=f) day;obtain⟨ds,e,hd⟩:=FJ rl _;have G:kX cs o rl day=.tup ds:=e;refine au rfl (aw (bL (MZ (kX cs o rl day)) (.tup [.str "one",.str p]) ?_ I9 ?_))
 .have hc:=ba  (fa:=fV 0 (fV 1 (fV 3 ai))) (ρ:=[sF _,some (row h _ _,false),sS p,sF _])  rfl hb;rw[G]at hc |-;unfold Gu;rw[show(List.map _ _++List.replicate 0 _:DL.Env)=[sF _,some _,sF _,sF _]from rfl,hc];rfl
 .unfold jd dz;rw[if_pos];rw[G];exact⟨xo (IL hd),xo N9⟩
noncomputable def a7 (j:Nat):D->Str
 |.tup [_,.tup (_::ay)]=>match ay[j]? with
  |some (.str s)=>s
  |_=>("" : Str)
 |_=>("" : Str)
noncomputable def fg (j:Nat):D->Int
 |.tup [_,.tup (_::ay)]=>match ay[j]? with
  |some (.int s)=>s
  |_=>0
 |_=>0
theorem Cd.root_of (h:Cd ("root" : Str) r):∃o rl,∃m f:Int,r=[.str o,.int m,.int f,.str rl]:=by
 generalize hk:("root" : Str)=k at h;cases h with
 |root o rl m f=>exact⟨o,rl,m,f,rfl⟩
 |named=>exact eB hk
 |chosen=>exact eB hk
 |heir=>exact eB hk
 |three _ hh=>rcases hh with rfl|rfl|rfl<;>exact eB hk
 |other _ hh=>rcases hh with rfl|rfl|rfl|rfl|rfl<;>exact eB hk
theorem xp {κ α:Type}[DecidableEq κ]{ks:List κ}{k:κ}{x y:α}:∀ {xs:List α},y∈dr ks xs k x->y=x\/y∈xs:=by
 intro xs h;unfold dr at h;split at h
 .rename_i G;clear G;induction ks generalizing xs with
  |nil=>simp at h
  |cons a ks ih=>
   cases xs with
   |nil=>simp at h
   |cons b xs=>
    grind[List.zipWith_cons_cons]
 grind
theorem xq:∀(l:List (ft×D))(a:LK×LD)(y:D),y∈(l.foldl nc a).2->y∈a.2\/∃p∈l,p.2=y
 |[],a,y,h=>.inl h
 |p::l,a,y,h=>by
  rcases xq l _ y h with h|⟨q,hq,e⟩
  .rcases xp (show y∈dr _ _ _ _ from h)with h|h
   .exact .inr ⟨p,mX,h.symm⟩
   .exact .inl h
  .exact .inr ⟨q,mZ _ hq,e⟩
theorem xr {α:Type}(f:α->Str)(g:α->D):∀(l:List α),j0 (l.map λx=>D.tup [.str (f x),g x])=some (l.map λx=>(.inr (f x),g x))
 |[]=>rfl
 |x::l=>by
  rw[uY,j0,xr f g l];rfl
theorem ug {κ:Type}[DecidableEq κ]:∀ {ks:List κ}{vs:LD}{k:κ}{v:D},cA ks vs k=some v->v∈vs
 |k'::ks,d::ds,k,v,h=>by
  unfold cA at h;split at h
  .cases h;exact mX
  .exact mZ _ (ug h)
 |[],_,_,_,h=>by simp[cA]at h
 |_::_,[],_,_,h=>by simp[cA]at h
noncomputable def kY (KL:List (D×Nat)):List (ft×D):=(KL.filter λx=>aZ x.1).map λx=>(.inr (a7 0 x.1),x.1)
def qB (KL:List (D×Nat))(o:Str):Option D:=cA (ci (kY KL)).1 (ci (kY KL)).2 (.inr o)
theorem uh (g:yN r)(h:aZ r=true):∃a o rl,∃m f:Int,r=row a ("root" : Str) [.str o,.int m,.int f,.str rl]:=by
 obtain⟨a,k,ay,rfl,d⟩:=g;have hk :=Ss h;subst hk;obtain⟨o,rl,m,f,rfl⟩:=d.root_of;exact⟨a,o,rl,m,f,rfl⟩
theorem dW (g:hU aa)(hx:x∈aq aa ae):pW aa (x.2:Int)=some x.1/\yN x.1:=⟨bK (bA hx),g.2 _ (vL (bA hx))⟩
theorem AR (g:hU aa)(h:qB (aq aa ae) o=some v):∃a G rl,∃m f:Int,v=row a ("root" : Str) [.str G,.int m,.int f,.str rl]:=by
 have hv:=ug h;rcases xq _ _ v hv with h|⟨p,hp,e⟩
 .cases h
 .obtain⟨x,hx,rfl⟩:=vO hp;obtain⟨h1,h2⟩:=vN hx;rw[<-e];exact uh (dW g h1).2 h2
theorem ui (g:hU aa)(ae:Int):gT [.tup aa,.int ae]=sF (.dk (ci (kY (aq aa ae))).1 (ci (kY (aq aa ae))).2):=by
 have hl:=cM aa ae;have M:=g.1;have h1:=iQ (fi:=bT _) (nT:=1) (cap:=[0]) (tg:=da 0) (fe:=f2 bN (aj 1) (aj 0)) (ρ:=[sJ aa,sF _,none]) (aq aa ae) _ Prod.fst
  (by
   show(fA dJ (fV 0 (fV 1 ai)) _).bind _=_;rw[aI _ rfl (lN aa g.rp g.le ae)];rfl) M9 λx hx=>by
   have ha:=(dW g hx).1;exact⟨_,rfl,false,by simp[cG,ha]⟩
 have hn:b8 ((aq aa ae).map Prod.fst)=true:=bH λd hd=>by
  obtain⟨x,hx,rfl⟩:=vO hd;exact(dW g hx).2.rp.flat
 have h2:=gd (fi:=bT (aj 2)) (nT:=1) (cap:=[]) (tg:=da 0) (c:=aY (f2 dz (fA aG (fV 0 ai)) (fS "root"))) (fe:=fA aM (af (fA av (fV 0 (af (fS "office") ai))) (fV 0 ai)))
  (ρ:=[sJ aa,sI ae,lT ((aq aa ae).map Prod.fst)]) (aq aa ae) Prod.fst _ (λx=>.tup [.str (a7 0 x.1),x.1]) N9 M9 λx hx=>by
   have G:=(dW g hx).2;refine⟨_,rfl,cr   (aI [x.1] rfl (j7 G)) rfl,λhp=>⟨false,?_⟩⟩;obtain⟨a,o,rl,m,f,e⟩:=uh G hp;rw[e];rfl
 refine au rfl (bV  h1 hn (aw (aI _ (aN h2 rfl) ?_)));rw[ko,xr _ Prod.fst];rfl
def ny:D×Nat->List (D×Nat)->D×Nat
 |b,[]=>b
 |b,x::r=>if bv (kA x) (kA b)=some true then ny x r else ny b r
theorem yR:∀(r:List (D×Nat))(b:D×Nat),qe (kA b,.int b.2) (r.map λx=>(kA x,D.int x.2))=.int (ny b r).2
 |[],b=>rfl
 |x::r,b=>by
  rw[uY,qe,ny];split
  .exact yR r x
  .exact yR r b
def gu (KL:List (D×Nat))(p:Str)(day:Int)(i:Nat):Bool:=match KL.filter (λx=>told fm p day x.1) with
 |[]=>false
 |b::r=>decide ((ny b r).2=i)
theorem IM (g:hU aa)(ae:Int)(hx:x∈aq aa ae)(e:x.1=row a ("death" : Str) [.int d,.str p]):gH [.tup aa,.int ae,.int x.2]=sO (gu (aq aa ae) p d x.2):=by
 have ha:=(dW g hx).1;have j:=(dW g hx).2;have f:=yM aa g.rp g.le ae fm kJ p d;have M:av [x.1,.str "person"]=sS p:=by rw[e];exact bF (i:=1) cL rfl
 have O:aW [x.1]=sI d:=by rw[e];rfl
 have G:x∈qN aa ae fm p d:=mem_filter.mpr ⟨hx,by simp_all[told,row,fm,xn]⟩;have c:gu (aq aa ae) p d x.2=match qN aa ae fm p d with|[]=>false|b::r=>decide ((ny b r).2=x.2):=rfl
 have T:∀y∈qN aa ae fm p d,∃h k dd,aa[y.2]? = some _/\y.1=row h k [.int dd,.str p]/\dn k=true:=λy hy=>by
  obtain⟨U,l⟩:=Ee hy;obtain⟨h,k,dd,e2,h3,_⟩:=tU kJ (g.rp _ (vL U)) l;exact⟨h,k,dd,by rw[U,e2],e2,h3⟩
 rw[c];cases hs:qN aa ae fm p d with
 |nil=>rw[hs]at G;cases G
 |cons b r=>
  rw[hs]at f T;have hm:∀ρ:DL.Env,ρ[0]? = some (sJ aa)->kn (qM [0] (fA fU (fV 1 (fV 0 ai))) ρ) ((b::r).map λy=>.int y.2)=some ((b::r).map λy=>.tup [.int (aL y.1),.int y.2]):=λρ h0=>
   hJ (b::r) λy hy=>by
    obtain⟨h,k,dd,U,e2,h3⟩:=T y hy;show(fA fU _ _).map _=_;rw[aI [.tup aa,.int y.2] (by simp[cG,h0]) (Eg U h3),e2];rfl
  have hk:ee ((b::r).map λy=>D.tup [.int (aL y.1),.int y.2])=some ((b::r).map kA):=gf _ λy _=>rfl;have hz:((b::r).map kA).zip ((b::r).map λy=>D.int y.2)=(kA b,D.int b.2)::r.map λy=>(kA y,D.int y.2):=by rw[zip_map'];rfl
  have m:b8 ((b::r).map λy=>D.int y.2)=true:=bH λd hd=>by obtain⟨y,_,rfl⟩:=vO hd;rfl
  refine au rfl (gR x.1 (by simp[ha]) j.rp.flat (bV  (aI [.tup aa,.int ae,.tup (fm.map .str),.str p,.int d] (bx rfl (bx rfl (bx (aI [.str "death"] rfl (bG _ N9)) (aN (aI [x.1,.str "person"] rfl M) (aN (aI [x.1] rfl O) rfl))))) f) m (aw (bL (.int (ny b r).2) (.int x.2) ?_ rfl ?_))))
  .unfold wK OJ;show((some _).bind _)=_;rw[vJ];dsimp only;rw[hm _ rfl,vJ,hk,vJ,if_pos (oE _),hz];simp_all[yR]
  simp_all<;>lia
abbrev KL:=List (D×Nat)
noncomputable def lP (K:KL)(p:Str)(day:Int):Bool:=(K.filter λx=>told fm p day x.1).isEmpty
def Ej (K:KL)(p:Str)(day:Int):Bool:=match MY (K.filter λx=>told oF p day x.1) with
 |none=>true
 |some x=>decide (kindOf x.1 = "found")
def je (K:KL)(r:D):Bool:=eJ (kindOf r) && (lP K (dN r) (aL r) && Ej K (dN r) (aL r))
def AS (r:D):Str:=if kindOf r = "named" then a7 1 r else a7 2 r
noncomputable def yS:LS:=[("named" : Str),"chosen","heir"]
def c6 (K:KL)(G:List Cl)(x:D×Nat):Bool :=
 if kindOf x.1 = "death" then gu K (a7 1 x.1) (aL x.1) x.2
 else if kindOf x.1∈yS then match qB K (AS x.1) with
  |none=>false
  |some v=>if kindOf x.1 = "named" then true else je K x.1 && jd G (a7 0 v) (a7 3 v) (a7 1 x.1) (aL x.1)
 else false
theorem LB (aa:LD)(ae:Int)(p:Str)(day:Int):tV aa ae p day=lP (aq aa ae) p day:=rfl
theorem LC (h:aJ r<=ae):jb aa ae r=je (aq aa ae) r:=by
 unfold jb je;rw[zh h];rfl
theorem FK (g:hU aa)(ae:Int)(G:List Cl)(m:G.length<=60)(hx:x∈aq aa ae)(O:aZ x.1=false):o8 [.tup aa,.int ae,.lst (G.map b7),.int x.2]=sO (c6 (aq aa ae) G x):=by
 obtain⟨ha,U⟩:=dW g hx;have hh:aJ x.1<=ae:=Ss (vN hx).2;have hf:bC x.1=true:=U.rp.flat;have hw:∀ρ:DL.Env,ρ[4]? = some (some (x.1,false))->fA aG (fV 4 ai) ρ=sS (kindOf x.1):=λρ h4=>aI [x.1] (by simp[h4]) (j7 U);have M:∀ρ:DL.Env,ρ[4]? = some (some (x.1,false))->aY (f2 gn (fA aG (fV 4 ai)) (fA aM (af (fS "named") (af (fS "chosen") (af (fS "heir") ai))))) ρ=some (!decide (kindOf x.1∈yS)):=λρ h4=>
  dP (bL (.str (kindOf x.1)) (.tup (yS.map .str)) (hw ρ h4) (by simp[sizeLine,yS]) (qx _ _))
 by_cases hd:kindOf x.1 = "death"
 .obtain⟨a,k,ay,e,d⟩:=U;have hk:k = "death":=by rw[e]at hd;exact hd
  subst hk;obtain⟨dd,p,rfl⟩:=d.deed.three Z9;have hc:c6 (aq aa ae) G x=gu (aq aa ae) p dd x.2:=by
   unfold c6;rw[if_pos hd,e];rfl
  rw[hc];exact au rfl (gR x.1 (by simp[ha]) hf (bD (cr (bb:=false) (hw _ rfl) (zh hd)) (aw (aI [.tup aa,.int ae,.int x.2] rfl (IM g ae hx e)))))
 .by_cases h3:kindOf x.1∈yS
  .have n:av [x.1,.str "office"]=sS (AS x.1):=by
    obtain⟨a,k,ay,e,d⟩:=U;rw[e]at h3 hd O |-;replace h3:k∈yS:=h3;clear hd O;cases d with
    |root=>exact eB h3
    |named d o p=>exact bF (i:=1) cL rfl
    |chosen d b o p s=>exact bF (i:=2) cL rfl
    |heir d b o p=>exact bF (i:=2) cL rfl
    |three _ hk=>rcases hk with rfl|rfl|rfl<;>exact eB h3
    |other _ hk=>rcases hk with rfl|rfl|rfl|rfl|rfl<;>exact eB h3
   have f:∀ρ:DL.Env,ρ[0]? = some (sJ aa)->ρ[1]? = some (sI ae)->ρ[4]? = some (some (x.1,false))->f2 OK (fA gT (fV 0 (fV 1 ai))) (fA av (fV 4 (af (fS "office") ai))) ρ=some ((qB (aq aa ae) (AS x.1)).getD .non,false):=λρ q r t=>
    bL (.dk (ci (kY (aq aa ae))).1 (ci (kY (aq aa ae))).2) (.str (AS x.1)) (aI [.tup aa,.int ae] (by simp[q,r]) (ui g ae)) (aI [x.1,.str "office"] (by simp[t]) n) rfl
   cases c:qB (aq aa ae) (AS x.1) with
   |none=>
    rw[c]at f;have hc:c6 (aq aa ae) G x=false:=by unfold c6;rw[if_neg hd,if_pos h3,c]
    rw[hc];exact au rfl (gR x.1 (by simp[ha]) hf (a9 (cr (bb:=false) (hw _ rfl) (So hd)) (a9 (by rw[M _ rfl,zh h3];rfl) (gR .non (f _ rfl rfl rfl) rfl (bD (dP (bL .non .non rfl rfl N9)) (aw rfl))))))
   |some v=>
    rw[c]at f;obtain⟨w,y,u,z,A,ev⟩:=AR g c;have h:bC v=true:=by rw[ev];rfl
    have j:BS v .non=sO false:=by rw[ev];simp[row]
    by_cases hn:kindOf x.1 = "named"
    .have hc:c6 (aq aa ae) G x=true:=by unfold c6;rw[if_neg hd,if_pos h3,c];dsimp only;rw[if_pos hn]
     rw[hc];exact au rfl (gR x.1 (by simp[ha]) hf (a9 (cr (bb:=false) (hw _ rfl) (So hd)) (a9 (by rw[M _ rfl,zh h3];rfl) (gR v (f _ rfl rfl rfl) h (a9 (dP (bL v .non rfl rfl j)) (bD (cr (bb:=false) (hw _ rfl) (zh hn)) (aw rfl)))))))
    .have hc:c6 (aq aa ae) G x=(je (aq aa ae) x.1 && jd G (a7 0 v) (a7 3 v) (a7 1 x.1) (aL x.1)):=by unfold c6;rw[if_neg hd,if_pos h3,c];dsimp only;rw[if_neg hn]
     have l:av [x.1,.str "by"]=sS (a7 1 x.1)/\aW [x.1]=sI (aL x.1):=by
      refine⟨?_,by rw[tY U];unfold vv;rw[O];rfl⟩;obtain⟨a,k,ay,e,d⟩:=U;rw[e]at h3 hn |-;replace h3:k∈yS:=h3;cases d with
      |root=>exact eB h3
      |named=>exact absurd rfl hn
      |chosen d b o p s=>exact bF (i:=1) cL rfl
      |heir d b o p=>exact bF (i:=1) cL rfl
      |three _ hk=>rcases hk with rfl|rfl|rfl<;>exact eB h3
      |other _ hk=>rcases hk with rfl|rfl|rfl|rfl|rfl<;>exact eB h3
     have hs:=tX aa g.rp g.le ae (bA hx);rw[LC hh]at hs;have T:cY [.lst (G.map b7),v,.str (a7 1 x.1),.int (aL x.1)]=sO (jd G (a7 0 v) (a7 3 v) (a7 1 x.1) (aL x.1)):=by
      rw[ev];exact yQ G m _ _
     rw[hc];refine au rfl (gR x.1 (by simp[ha]) hf (a9 (cr (bb:=false) (hw _ rfl) (So hd)) (a9 (by rw[M _ rfl,zh h3];rfl) (gR v (f _ rfl rfl rfl) h (a9 (dP (bL v .non rfl rfl j)) (a9 (cr (bb:=false) (hw _ rfl) (So hn)) (aw ?_)))))));exact df (b1:=false) (aI [.tup aa,.int ae,.int x.2] rfl hs) λ_=>aI [.lst (G.map b7),v,.str (a7 1 x.1),.int (aL x.1)] (bx rfl (bx rfl (aN (aI [x.1,.str "by"] rfl l.1) (aN (aI [x.1] rfl l.2) rfl)))) T
  .have hc:c6 (aq aa ae) G x=false:=by unfold c6;rw[if_neg hd,if_neg h3]
   rw[hc];exact au rfl (gR x.1 (by simp[ha]) hf (a9 (cr (bb:=false) (hw _ rfl) (So hd)) (bD (by rw[M _ rfl,So h3];rfl) (aw rfl))))
def gK (G:LS)(p:Str)(day:Int)(c:Cl):List Cl :=
 if(!decide (c.o∈G) || (!decide (c.p=p) || !(jc c day || decide (day<c.s))))=true then [c]else if c.s<day then [⟨c.o,p,c.s,some day,c.n⟩]else []
noncomputable def cV (M:List Cl)(G:LS)(p:Str)(day:Int):List Cl:=M.flatMap (gK G p day)
theorem gL (G:LS)(p:Str)(day:Int):∀M:List Cl,(cV M G p day).length<=M.length
 |[]=>vT _
 |c::M=>by
  unfold cV;rw[flatMap_cons,uZ,vE];have h1:=gL G p day M;have h2:(gK G p day c).length<=1:=by
   unfold gK;split
   .simp
   .split<;>simp
  unfold cV at h1;lia
theorem C3 (k:Str)(ws:LS):gn (.str k) (.lst (ws.map .str))=sO (!decide (k∈ws)):=by
 simp only[gn,iu,vJ,oD];rw[if_pos ⟨rfl,mq ws⟩]
theorem AT (O:List Cl)(q:O.length<=60)(G:LS)(p:Str)(day:Int):qX [.lst (O.map b7),.lst (G.map .str),.str p,.int day]=lT ((cV O G p day).map b7):=by
 obtain⟨ρ',e,a,rfl⟩:=fB (tg:=da 5) (g:=t0) (λj ρ=>∃a:OB,ρ=[sL (O.map b7),sL (G.map .str),sS p,sI day,lT ((cV (O.take j) G p day).map b7),a]) (O.map b7)
  [sL (O.map b7),sL (G.map .str),sS p,sI day,lT [],none] ⟨none,rfl⟩ (by
   rintro j d ρ hd ⟨a,rfl⟩;rw[vA]at hd;obtain⟨c,hc,rfl⟩:=oY hd;have h:cV (O.take (j+1)) G p day=cV (O.take j) G p day++gK G p day c:=by
    simp_all[cV,take_add_one]
   have r:(cV (O.take j) G p day).length<=60:=vR (gL G p day _) (by rw[length_take];lia);let T:DL.Env:=[sL (O.map b7),sL (G.map .str),sS p,sI day,lT ((cV (O.take j) G p day).map b7),some (b7 c,false)];have i:cP 5 0 T=sS c.o:=bL (b7 c) (.int 0) rfl rfl (Ts c);have k:cP 5 1 T=sS c.p:=bL (b7 c) (.int 1) rfl rfl (Qp c);have f:cP 5 2 T=sI c.s:=bL (b7 c) (.int 2) rfl rfl (Wf c);have l:cP 5 4 T=sI c.n:=bL (b7 c) (.int 4) rfl rfl (Wg c);have M:dC (aY (f2 gn (cP 5 0) (aj 1))) (dC (aY (f2 wt (cP 5 1) (aj 2))) (cf (dC (aY (fA dL (fV 5 (fV 3 ai)))) (aY (f2 Gs (cP 5 2) (aj 3)))))) T=some (!decide (c.o∈G) || (!decide (c.p=p) || !(jc c day || decide (day<c.s)))) :=
    cD (dP (bL (.str c.o) (.lst (G.map .str)) i rfl (C3 _ _))) λ_=>cD (dP (bL (.str c.p) (.str p) k rfl N9)) λ_=>bJ (cD (dP (aI [b7 c,.int day] rfl (tZ c day))) λ_=>dP (bL (.int c.s) (.int day) f rfl N9))
   by_cases h1:(!decide (c.o∈G) || (!decide (c.p=p) || !(jc c day || decide (day<c.s))))=true
   .have U:gK G p day c=[c]:=by unfold gK;rw[if_pos h1]
    rw[h1]at M;refine⟨_,_,rfl,.inl (pB M (ie (ds:=(cV (O.take j) G p day).map b7) (d:=b7 c) (b:=false) rfl rfl (oG c) (bO S9))),some (b7 c,false),?_⟩;rw[h,U,uW];rfl
   .rw[Bool.not_eq_true]at h1;rw[h1]at M;by_cases h2:c.s<day
    .have U:gK G p day c=[⟨c.o,p,c.s,some day,c.n⟩]:=by unfold gK;rw[if_neg (by rw[h1];decide),if_pos h2]
     refine⟨_,_,rfl,.inl (lb M (pB (dP (bL (.int c.s) (.int day) f rfl (by simp[h2]))) (ie (ds:=(cV (O.take j) G p day).map b7) (d:=b7 ⟨c.o,p,c.s,some day,c.n⟩) (b:=false) rfl (aI [.str c.o,.str p,.int c.s,.int day,.int c.n] (aN i (bx rfl (aN f (bx rfl (aN l rfl))))) (bG _ N9)) (oG _) (bO S9)))),some (b7 c,false),?_⟩;rw[h,U,uW];rfl
    .have U:gK G p day c=[]:=by unfold gK;rw[if_neg (by rw[h1];decide),if_neg h2]
     refine⟨_,_,rfl,.inl (lb M (lb (dP (bL (.int c.s) (.int day) f rfl S9)) rfl)),some (b7 c,false),?_⟩;rw[h,U,uQ];rfl)
 have m:jx (da 5) t0 (O.map b7) [sL (O.map b7),sL (G.map .str),sS p,sI day,lT [],none]=some (.nx [sL (O.map b7),sL (G.map .str),sS p,sI day,lT ((cV O G p day).map b7),a]):=by
  simp_all
 exact au rfl (bV (ds:=[]) I9 rfl (cR (i6 (ds:=O.map b7) (by simp[jV]) m) (jm rfl)))
theorem RS (G:av [r,.str "office"]=sS o)(hp:av [r,.str "person"]=sS p)(s:Int)(n:Nat):hG [r,.int s,.int n]=some (b7 ⟨o,p,s,none,n⟩,false) :=
 au rfl (aw (aI _ (aN (aI _ rfl G) (aN (aI _ rfl hp) rfl)) (bG _ N9)))
theorem FL (G:List Cl)(M:G.length<=60)(n:Nat):iW [.lst (G.map b7),row a ("chosen" : Str) [.int d,.str b,.str o,.str p,.int s],.int n]=lT ((cV G [o] b s++[(⟨o,p,s,none,n⟩:Cl)]).map b7):=by
 let r:D:=row a ("chosen" : Str) [.int d,.str b,.str o,.str p,.int s];have O:av [r,.str "office"]=sS o:=bF (i:=2) cL rfl;have hb:av [r,.str "by"]=sS b:=bF (i:=1) cL rfl;have hs:av [r,.str "since"]=sI s:=bF (i:=4) cL rfl;have hl:=gL [o] b s G;refine au rfl (gR (.int s) (aI _ rfl hs) rfl (bV  (aI _ (bx rfl (aN  (aI [.str o] (aN (aI _ rfl O) rfl) (dh _ N9)) (aN (aI _ rfl hb) rfl))) (AT G M [o] b s)) (jP _) (aw ?_)));rw[uW];exact if_pos (dS (by rw[vI,length_singleton];lia))
noncomputable def AU (hk:List LK)(hv:LD)(o p:Str):Option Str:=match cA hk hv [.inr o,.inr p] with
 |some (.str h)=>some h
 |_=>none
def du (K:KL)(hk:List LK)(hv:LD)(p:Str)(day:Int)(n:Nat)(o:Str):List Cl:=match AU hk hv o p with
 |some h=>if lP K h day=true then [⟨o,h,day,none,n⟩]else []
 |none=>[]
def dO (G:List Cl)(p:Str)(day:Int):LS:=mC (gX ((G.filter λc=>decide (c.p=p) && jc c day).map (·.o)))
def qO (K:KL)(G:List Cl)(hk:List LK)(hv:LD)(p:Str)(day:Int)(n:Nat):List Cl:=(dO G p day).flatMap (du K hk hv p day n)
theorem nA (K:KL)(hk:List LK)(hv:LD)(p:Str)(day:Int)(n:Nat)(o:Str):(du K hk hv p day n o).length<=1:=by
 unfold du;split
 .split<;>simp
 .simp
theorem uj {α G:Type}(f:α->List G)(h:∀a,(f a).length<=1):∀l:List α,(l.flatMap f).length<=l.length
 |[]=>vT _
 |a::l=>by
  rw[flatMap_cons,uZ,vE];have:=h a;have:=uj f h l;lia
theorem AW (G:List Cl)(p:Str)(day:Int):(dO G p day).length<=G.length:=by
 unfold dO;rw[(dH _).length_eq];refine vR (nX _) ?_;rw[vI];exact vM _ _
theorem yT (g:hU aa)(ae:Int)(G:List Cl)(K:G.length<=60)(hk:List LK)(hv:LD)(m:∀v∈hv,∃s,v=.str s)(hx:x∈aq aa ae)(e:x.1=row a ("death" : Str) [.int d,.str p]):
  lH [.tup aa,.int ae,.lst (G.map b7),.dt hk hv,.int x.2]=lT ((qO (aq aa ae) G hk hv p d x.2).map b7):=by
 have ha:=(dW g hx).1;have U:av [x.1,.str "person"]=sS p:=by rw[e];exact bF (i:=1) cL rfl
 have w:aW [x.1]=sI d:=by rw[e];rfl
 have L:=AW G p d;have y:∀(o:Str)(l:List Cl)(M:OB),l.length<=60->i7 _=some (.nx [sJ aa,sI ae,sL (G.map b7),sF (.dt hk hv),sI x.2,sS p,sI d,lT ((l++du (aq aa ae) hk hv p d x.2 o).map b7),sS o,some ((cA hk hv [.inr o,.inr p]).getD .non,false)]):=λo l M hl=>by
  have f:Im (aj 3) (fV 8 (fV 5 ai)) [sJ aa,sI ae,sL (G.map b7),sF (.dt hk hv),sI x.2,sS p,sI d,lT (l.map b7),sS o,M]=some ((cA hk hv [.inr o,.inr p]).getD .non,false):=by
   simp[kq,sizeLine]
  cases O:cA hk hv [.inr o,.inr p] with
  |none=>
   rw[O]at f;have ei:du (aq aa ae) hk hv p d x.2 o=[]:=by unfold du AU;rw[O]
   rw[ei,uQ];exact gR .non f rfl (lb (eP (p:=false) (q:=false) (dP N9) N9) rfl)
  |some v=>
   obtain⟨h,rfl⟩:=m v (ug O);rw[O]at f;have r:=AN aa g.rp g.le ae h d;rw[LB]at r;have T:∀ρ:DL.Env,ρ[0]? = some (sJ aa)->ρ[1]? = some (sI ae)->ρ[6]? = some (sI d)->ρ[9]? = some (sS h)->fy (aY (f2 kg (aj 9) (fC .non))) (aY (fA o6 (fV 0 (fV 1 (fV 9 (fV 6 ai)))))) ρ=some (true && lP (aq aa ae) h d):=λρ z A n t=>
    eP (dP (by simp[t])) λ_=>dP (aI [.tup aa,.int ae,.str h,.int d] (by simp[z,A,n,t]) r)
   cases u:lP (aq aa ae) h d with
   |false=>
    have ei:du (aq aa ae) hk hv p d x.2 o=[]:=by simp_all[du,AU]
    rw[ei,uQ];exact gR (.str h) f rfl (lb (by rw[T _ rfl rfl rfl rfl,u];rfl) rfl)
   |true=>
    have ei:du (aq aa ae) hk hv p d x.2 o=[⟨o,h,d,none,x.2⟩]:=by simp_all[du,AU]
    rw[ei,uW];exact gR (.str h) f rfl (pB (by rw[T _ rfl rfl rfl rfl,u];rfl) (ie (ds:=l.map b7) (d:=b7 ⟨o,h,d,none,x.2⟩) (b:=false) rfl (aI [.str o,.str h,.int d,.non,.int x.2] rfl (bG _ N9)) rfl (bO S9)))
 obtain⟨ρ',B,k,M,rfl⟩:=fB (tg:=da 8) (g:=i7) (λj ρ=>∃k M:OB,ρ=[sJ aa,sI ae,sL (G.map b7),sF (.dt hk hv),sI x.2,sS p,sI d,lT ((((dO G p d).take j).flatMap (du (aq aa ae) hk hv p d x.2)).map b7),k,M]) ((dO G p d).map .str)
  [sJ aa,sI ae,sL (G.map b7),sF (.dt hk hv),sI x.2,sS p,sI d,lT [],none,none] ⟨none,none,rfl⟩ (by
   rintro j dd ρ hd ⟨k,M,rfl⟩;rw[vA]at hd;obtain⟨o,C,rfl⟩:=oY hd;have hl:(((dO G p d).take j).flatMap (du (aq aa ae) hk hv p d x.2)).length<=60:=vR (uj _ (nA _ _ _ _ _ _) _) (by rw[length_take];lia);refine⟨_,_,rfl,.inl (y o _ M hl),sS o,some ((cA hk hv [.inr o,.inr p]).getD .non,false),?_⟩;rw[take_add_one,C,Option.toList_some,List.flatMap_append,flatMap_cons,List.flatMap_nil,uQ])
 have E:jx (da 8) i7 ((dO G p d).map .str) [sJ aa,sI ae,sL (G.map b7),sF (.dt hk hv),sI x.2,sS p,sI d,lT [],none,none]=some (.nx [sJ aa,sI ae,sL (G.map b7),sF (.dt hk hv),sI x.2,sS p,sI d,lT ((qO (aq aa ae) G hk hv p d x.2).map b7),k,M]):=by
  rw[B];have:(dO G p d).take ((dO G p d).map D.str).length=dO G p d:=N9
  rw[this];rfl
 have F:∀ρ:DL.Env,ρ[2]? = some (sL (G.map b7))->ρ[5]? = some (sS p)->ρ[6]? = some (sI d)->bT (f1 gY (bM (bT (aj 2)) 1 [5,6] (da 0) (fy (aY (f2 dz (cP 0 1) (aj 1))) (aY (fA dL (fV 0 (fV 2 ai))))) (cP 0 0))) ρ=some ((dO G p d).map .str):=λρ H I n=>by
  have hc:=gd (fi:=bT (aj 2)) (nT:=1) (cap:=[5,6]) (tg:=da 0) (c:=fy (aY (f2 dz (cP 0 1) (aj 1))) (aY (fA dL (fV 0 (fV 2 ai))))) (fe:=cP 0 0) (ρ:=ρ) G b7 (λc=>decide (c.p=p) && jc c d) (λc=>.str c.o) (by simp[H]) M9 λc hc=>
   ⟨_,rfl,eP (dP (bL (.str c.p) (.str p) (bL (b7 c) (.int 1) (by simp[cG]) rfl (Qp c)) (by simp[cG,I]) N9)) λ_=>dP (aI [b7 c,.int d] (by simp[cG,n]) (tZ c d)),λ_=>⟨false,bL (b7 c) (.int 0) (by simp[cG]) rfl (Ts c)⟩⟩
  have e2:(G.filter λc=>decide (c.p=p) && jc c d).map (λc=>D.str c.o)=((G.filter λc=>decide (c.p=p) && jc c d).map (·.o)).map .str:=by rw[uP];rfl
  rw[e2]at hc;show(f1 gY _ ρ).bind _=_;unfold f1;rw[hc,vJ];have J:((G.filter λc=>decide (c.p=p) && jc c d).map (·.o)).length<64:=by rw[vI];exact lt_of_le_of_lt (vM _ _) M9
  show((ga _).bind _).bind _=_;rw[oH,vJ,if_pos J];rfl
 refine au rfl (gR (.str p) (aI [x.1,.str "person"] (by simp[ha]) U) rfl (gR (.int d) (aI [x.1] (by simp[ha]) w) rfl (bV (ds:=[]) I9 rfl (cR (ρ':=[sJ aa,sI ae,sL (G.map b7),sF (.dt hk hv),sI x.2,sS p,sI d,lT ((qO (aq aa ae) G hk hv p d x.2).map b7),k,M]) ?_ (jm rfl)))));exact i6  (F _ rfl rfl rfl) E
theorem IN (g:hU aa)(ae:Int)(G:List Cl)(M:G.length<=60)(hk:List LK)(hv:LD)(U:∀v∈hv,∃s,v=.str s)(hx:x∈aq aa ae)(e:x.1=row a ("death" : Str) [.int d,.str p]):
  j4 [.tup aa,.int ae,.lst (G.map b7),.dt hk hv,.int x.2]=lT ((cV G (G.map Cl.o) p d++qO (aq aa ae) G hk hv p d x.2).map b7):=by
 have ha:=(dW g hx).1;have O:av [x.1,.str "person"]=sS p:=by rw[e];exact bF (i:=1) cL rfl
 have T:aW [x.1]=sI d:=by rw[e];rfl
 have h1:=iQ (fi:=bT (aj 2)) (nT:=1) (cap:=[]) (tg:=da 0) (fe:=cP 0 0) (ρ:=[sJ aa,sI ae,sL (G.map b7),sF (.dt hk hv),sI x.2,none,none]) G b7 _ N9 M9 λc hc=>⟨_,rfl,false,bL (b7 c) (.int 0) (by simp[cG]) rfl (Ts c)⟩;have e2:G.map (λc=>D.str c.o)=(G.map Cl.o).map .str:=by rw[uP];rfl
 rw[e2]at h1;have b:=gL (G.map Cl.o) p d G;have f:(qO (aq aa ae) G hk hv p d x.2).length<=60:=vR (uj _ (nA _ _ _ _ _ _) _) (vR (AW G p d) M);refine au rfl (bV  h1 (eK _) (bV  (aI _ (bx rfl (bx rfl (bx (aI _ (by simp[ha]) O) (bx (aI [x.1] (by simp[ha]) T) rfl)))) (AT G M _ p d)) (jP _) (aw ?_)));refine jh     rfl (aI _ rfl (yT g ae G M hk hv U hx e)) ?_;rw[uW];exact if_pos (dS (by grind))
abbrev OZ:=List Cl×List LK×LD
def eA (K:KL)(st:OZ)(x:D×Nat):OZ :=
 if c6 K st.1 x=true then
  if kindOf x.1 = "named" then (st.1++[⟨a7 1 x.1,a7 2 x.1,aL x.1,none,x.2⟩],st.2)
  else if kindOf x.1 = "chosen" then (cV st.1 [a7 2 x.1] (a7 1 x.1) (fg 4 x.1)++[⟨a7 2 x.1,a7 3 x.1,fg 4 x.1,none,x.2⟩],st.2)
  else if kindOf x.1 = "heir" then (st.1,eY st.2.1 [.inr (a7 2 x.1),.inr (a7 1 x.1)],dr st.2.1 st.2.2 [.inr (a7 2 x.1),.inr (a7 1 x.1)] (.str (a7 3 x.1)))
  else (cV st.1 (st.1.map Cl.o) (a7 1 x.1) (aL x.1)++qO K st.1 st.2.1 st.2.2 (a7 1 x.1) (aL x.1) x.2,st.2)
 else st
def dA (K:KL):KL:=dR (λx=>cC (kA x)) (K.filter λx=>!aZ x.1)
noncomputable def mL (K:KL)(l:KL):OZ:=l.foldl (eA K) ([],[],[])
noncomputable def kC (c:Cl):List At:=[.s c.o,.i c.s,.i c.n]
def bB (K:KL):List Cl:=dR (λc=>cC (kC c)) (mL K (dA K)).1
noncomputable def LF:LK->Str
 |[_,.inr p]=>p
 |_=>("" : Str)
noncomputable def Pa (dd:LS)(ks:List LK):Nat:=(ks.filter λk=>decide (LF k∉dd)).length
structure B6 (K l:KL)(dd:List Str)(st:OZ):Prop where
 len:st.1.length+Pa dd st.2.1<=l.length
 ded:∀q∈dd,∃y∈l,gu K q (aL y.1) y.2=true
 nod:(st.1.map λc=>(c.o,c.n)).Nodup
 num:∀c∈st.1,c.n∈l.map (·.2)
 hs:∀v∈st.2.2,∃s,v=D.str s
 hk:st.2.1.length<=l.length
theorem Ek (h:told ws p d r=true):aL r<=d/\∀d',aL r<=d'->told ws p d' r=true:=by
 unfold told at h;split at h
 .rw[vC]at h;obtain⟨h1,h2⟩:=h;unfold xn at h2;split at h2
  .rw[vC]at h2;refine⟨Ss h2.2,λd' hd=>?_⟩;unfold told;rw[vC];refine⟨h1,?_⟩;unfold xn;rw[vC];exact⟨h2.1,zh hd⟩
  simp_all
 simp_all
theorem ul:∀(r:KL)(b:D×Nat),ny b r∈b::r/\∀y∈b::r,ge y (ny b r)=false
 |[],b=>by simp_all[ny,ge]
 |x::r,b=>by
  rw[ny,C0];by_cases h:ge x b=true
  .rw[if_pos (by rw[h])];obtain⟨h1,h2⟩:=ul r x;refine⟨mZ _ h1,λy hy=>?_⟩;rcases vP hy with rfl|hy
   .grind[mX,ge]
   .exact h2 y hy
  .rw[if_neg (by simpa using h)];obtain⟨h1,h2⟩:=ul r b;refine⟨?_,λy hy=>?_⟩
   .grind
   .grind[mX,ge]
theorem um (h:gu K p d i=true):∃m∈K,told fm p d m.1=true/\m.2=i/\∀y∈K,told fm p d y.1=true->ge y m=false:=by
 unfold gu at h;split at h
 .cases h
 .rename_i b r e;obtain⟨h1,h2⟩:=ul r b;grind
theorem C4 (h1:gu K p d1 i1=true)(h2:gu K p d2 i2=true):i1=i2:=by
 obtain⟨m1,k1,G,O,T⟩:=um h1;obtain⟨m2,k2,M,e2,U⟩:=um h2;have a:=Ek G;have b:=Ek M;grind[ge]
theorem AX {κ:Type}[DecidableEq κ]:∀ {ks:List κ}{vs:LD}{k:κ}{v:D},cA ks vs k=some v->k∈ks
 |k'::ks,d::ds,k,v,h=>by
  unfold cA at h;split at h
  .simp_all
  .exact mZ _ (AX h)
 |[],_,_,_,h=>by simp[cA]at h
 |_::_,[],_,_,h=>by simp[cA]at h
theorem uo (p:Str)(dd:LS)(hp:p∉dd):∀ks:List LK,Pa dd ks=Pa (p::dd) ks+(ks.filter λk=>decide (LF k=p)).length
 |[]=>rfl
 |k::ks=>by
  have ih:=uo p dd hp ks;grind[Pa]
theorem mr (G:LS)(p:Str)(day:Int):∀M:List Cl,((cV M G p day).map λc=>(c.o,c.n)).Sublist (M.map λc=>(c.o,c.n))
 |[]=>List.Sublist.slnil
 |c::M=>by
  have ih:=mr G p day M;unfold cV at ih |-;rw[flatMap_cons,uW];have:((gK G p day c).map λc=>(c.o,c.n))=[(c.o,c.n)]\/((gK G p day c).map λc=>(c.o,c.n))=[]:=by
   unfold gK;split
   .exact .inl rfl
   .split
    .exact .inl rfl
    .exact .inr rfl
  rcases this with h|h
  .rw[h];exact ih.cons₂ _
  .rw[h];exact ih.cons _
theorem ms (h:c∈cV M O p day):∃G∈M,G.o=c.o/\G.n=c.n:=by
 have:=(mr _ p _ M).subset (uS ⟨c,h,rfl⟩);simp_all
theorem jQ:∀(ss G:LS),G.Nodup->(ss.foldl kZ G).Nodup
 |[],_,h=>h
 |s::ss,G,h=>jQ ss _ (rP h s)
theorem uq (G:List Cl)(p:Str)(day:Int):(dO G p day).Nodup:=(dH _).nodup_iff.mpr (jQ _ [] nodup_nil)
theorem AY (K:KL)(hk:List LK)(hv:LD)(p:Str)(day:Int)(n:Nat):∀os:LS,((os.flatMap (du K hk hv p day n)).map λc=>(c.o,c.n)).Sublist (os.map λo=>(o,n))
 |[]=>List.Sublist.slnil
 |o::os=>by
  have ih:=AY K hk hv p day n os;rw[flatMap_cons,uW];have:((du K hk hv p day n o).map λc=>(c.o,c.n))=[(o,n)]\/((du K hk hv p day n o).map λc=>(c.o,c.n))=[]:=by
   unfold du;split
   .split
    .exact .inl rfl
    .exact .inr rfl
   .exact .inr rfl
  rcases this with h|h
  .rw[h];exact ih.cons₂ _
  .rw[h];exact ih.cons _
theorem xu {α:Type}[DecidableEq α]:∀(l m:List α),l.Nodup->(∀x∈l,x∈m)->l.length<=m.length
 |[],_,_,_=>uN _
 |x::l,m,h,s=>by
  rw[nodup_cons]at h;have:=xu l _ h.2 λy hy=>(List.mem_erase_of_ne  (b:=x) (λe=>h.1 (by rw[<-e];exact hy))).mpr (s y (mZ _ hy));grind
theorem xw {α G:Type}(f:α->List G)(q:α->Bool)(h:∀a,(f a).length<=1/\(q a=false->f a=[])):∀l:List α,(l.flatMap f).length<=(l.filter q).length
 |[]=>vT _
 |a::l=>by
  have ih:=xw f q h l;grind
theorem LG (K:KL)(G:List Cl)(hk:List LK)(hv:LD)(p:Str)(day:Int)(n:Nat):(qO K G hk hv p day n).length<=(hk.filter λk=>decide (LF k=p)).length:=by
 refine vR (xw _ (λo=>(cA hk hv [.inr o,.inr p]).isSome) (λo=>⟨nA _ _ _ _ _ _ _,λh=>?_⟩) _) ?_
 .simp_all[du,AU]
 .have M:(((dO G p day).filter λo=>(cA hk hv [.inr o,.inr p]).isSome).map λo=>([.inr o,.inr p]:LK)).Nodup:=List.Pairwise.map _ (λa b O e=>O (by injection e with e _;injection e)) ((uq G p _).filter _);have:=xu _ (hk.filter λk=>decide (LF k=p)) M λk hm=>by
   obtain⟨o,T,rfl⟩:=vO hm;obtain⟨v,hv⟩:=uU (vN T).2;exact mem_filter.mpr ⟨AX hv,zh rfl⟩
  simp_all
theorem B6.step {K l:KL}{dd:LS}{st:OZ}(h:B6 K l dd st){x:D×Nat}(hx:x.2∉l.map (·.2)):∃f,B6 K (l++[x]) f (eA K st x):=by
 have d:∀ {n:Nat},n∈l.map (·.2)->n∈(l++[x]).map (·.2):=λh=>by grind
 have g:x.2∈(l++[x]).map (·.2):=N9
 have i:(l++[x]).length=l.length+1:=N9
 have M:∀q∈dd,∃y∈l++[x],gu K q (aL y.1) y.2=true:=λq hq=>by
  obtain⟨y,h1,h2⟩:=h.ded q hq;exact⟨y,mem_append_left _ h1,h2⟩
 have j:B6 K (l++[x]) dd st:=⟨by have:=h.len;lia,M,h.nod,λc hc=>d (h.num c hc),h.hs,by have:=h.hk;lia⟩;have t:=h.len;unfold eA;split
 .rename_i G;split
  .refine⟨dd,S9,M,?_,λc hc=>?_,h.hs,by rw[i];exact le_succ_of_le h.hk⟩
   .rw[uW,nodup_append];refine⟨h.nod,N9,λa ha b hb e=>?_⟩;obtain⟨c,hc,rfl⟩:=vO ha;simp at hb;subst hb;injection e with _ e2;exact hx (e2 ▸ h.num c hc)
   .rcases mem_append.mp hc with hc|hc
    .exact d (h.num c hc)
    .rw[uT hc];exact g
  .split
   .have hl:=gL [a7 2 x.1] (a7 1 x.1) (fg 4 x.1) st.1;refine⟨dd,S9,M,?_,λc hc=>?_,h.hs,by rw[i];exact le_succ_of_le h.hk⟩
    .rw[uW,nodup_append];refine⟨h.nod.sublist (mr _ _ _ _),N9,λa ha b hb e=>?_⟩;obtain⟨c,hc,rfl⟩:=vO ha;simp at hb;subst hb;injection e with _ e2;obtain⟨O,h1,_,h3⟩:=ms hc;exact hx (e2 ▸ h3 ▸ h.num O h1)
    .rcases mem_append.mp hc with hc|hc
     .obtain⟨O,h1,_,h3⟩:=ms hc;rw[<-h3];exact d (h.num O h1)
     .rw[uT hc];exact g
   .split
    .have hp:∀k:LK,Pa dd (eY st.2.1 k)<=Pa dd st.2.1+1/\(eY st.2.1 k).length<=st.2.1.length+1:=λk=>by
      grind[eY,Pa]
     refine⟨dd,?_,M,j.nod,j.num,λv hv=>?_,?_⟩
     .grind
     .rcases xp hv with hv|hv
      .exact⟨_,hv⟩
      .exact h.hs v hv
     .have:=(hp [.inr (a7 2 x.1),.inr (a7 1 x.1)]).2;have:=h.hk;lia
    .rename_i n1 n2 n3;have hd:kindOf x.1 = "death":=by
      simp_all[c6,yS]
     have hf:gu K (a7 1 x.1) (aL x.1) x.2=true:=by unfold c6 at G;rwa [if_pos hd]at G
     have p:a7 1 x.1∉dd:=λhm=>by
      obtain⟨y,h1,h2⟩:=h.ded _ hm;grind[C4]
     have hl:=gL (st.1.map Cl.o) (a7 1 x.1) (aL x.1) st.1;have r:=LG K st.1 st.2.1 st.2.2 (a7 1 x.1) (aL x.1) x.2;have u:=uo (a7 1 x.1) dd p st.2.1;have T:=AY K st.2.1 st.2.2 (a7 1 x.1) (aL x.1) x.2 (dO st.1 (a7 1 x.1) (aL x.1));have U:∀c∈qO K st.1 st.2.1 st.2.2 (a7 1 x.1) (aL x.1) x.2,c.o∈dO st.1 (a7 1 x.1) (aL x.1)/\c.n=x.2:=λc hc=>by
      have:=T.subset (uS ⟨c,hc,rfl⟩);simp_all<;>lia
     refine⟨a7 1 x.1::dd,?_,λq hq=>?_,?_,λc hc=>?_,h.hs,by rw[i];exact le_succ_of_le h.hk⟩
     .grind
     .rcases vP hq with rfl|hq
      .exact⟨x,N9,hf⟩
      .exact M q hq
     .rw[uW,nodup_append];refine⟨h.nod.sublist (mr _ _ _ _),List.Nodup.sublist T (List.Pairwise.map _ (λa b m e=>m (by injection e)) (uq _ _ _)),λa ha b hb e=>?_⟩;obtain⟨c,hc,rfl⟩:=vO ha;obtain⟨c2,s,rfl⟩:=vO hb;injection e with _ e2;obtain⟨O,h1,_,h3⟩:=ms hc;exact hx ((U c2 s).2 ▸ e2 ▸ h3 ▸ h.num O h1)
     .rcases mem_append.mp hc with hc|hc
      .obtain⟨O,h1,_,h3⟩:=ms hc;rw[<-h3];exact d (h.num O h1)
      .rw[(U c hc).2];exact g
 .exact⟨dd,j⟩
theorem LH (e:ρ[i]? = some (some (.dt ks vs,true)))(ev:M ρ=some (d,b))(ek:O ρ=some kd)(hk:kq kd=some G)(hf:bC d=true)(h1:ks.length<=1000)(h2:kd.length<=1000):wO i O M ρ=some (.nx (ρ.set i (some (.dt (eY ks G) (dr ks vs G d),true)))):=by
 unfold wO;rw[e];dsimp;rw[ev,vJ,ek,vJ,hk,vJ,if_pos ⟨hf,bO M9,dS M9⟩]
theorem U6 (a b:Cl):(bv (kC a) (kC b)).isSome=true:=by
 unfold kC;rw[bv];split
 .rw[bv];split
  .rw[bv];split
   .rfl
   .rfl
  .rfl
 .rfl
theorem El (cs:List Cl):dj (cs.map kC)=true:=by
 simp_all[dj,U6]
theorem xx {α G:Type}(f:α->G):∀ {l:List α},(l.map f).Nodup->∀ {a b:α},a∈l->b∈l->f a=f b->a=b
 |[],_,_,_,ha,_,_=>by cases ha
 |c::l,h,a,b,ha,hb,e=>by
  rw[uY,nodup_cons]at h;rcases vP ha with M|ha1
  .grind
  .rcases vP hb with O|hb1
   .simp_all
   .exact xx f h.2 ha1 hb1 e
theorem Pc {cs:List Cl}{a b:Cl}(ha:a∈cs)(hb:b∈cs)(e:cC (kC a)=cC (kC b)):(a.o,a.n)=(b.o,b.n):=by
 have h:=mi (El cs) (uS ⟨a,ha,rfl⟩) (uS ⟨b,hb,rfl⟩) e;grind[kC]
theorem LJ (g:hU aa)(ae:Int)(h:B6 (aq aa ae) l dd st)(hj:l.length<=60)(hx:x∈aq aa ae)(c:aZ x.1=false)(f:OB):
  ∃j,(mn [sJ aa,sI ae,lT (st.1.map b7),some (.dt st.2.1 st.2.2,true),sI x.2,f]=some (.nx [sJ aa,sI ae,lT ((eA (aq aa ae) st x).1.map b7),some (.dt (eA (aq aa ae) st x).2.1 (eA (aq aa ae) st x).2.2,true),sI x.2,j])
   \/ mn [sJ aa,sI ae,lT (st.1.map b7),some (.dt st.2.1 st.2.2,true),sI x.2,f]=some (.ct [sJ aa,sI ae,lT ((eA (aq aa ae) st x).1.map b7),some (.dt (eA (aq aa ae) st x).2.1 (eA (aq aa ae) st x).2.2,true),sI x.2,j])):=by
 obtain⟨ha,U⟩:=dW g hx;have T:st.1.length<=60:=by have:=h.len;lia
 have hf:bC x.1=true:=U.rp.flat;have m:=FK g ae st.1 T hx c;have M:cf (aY (fA o8 (fV 0 (fV 1 (fV 2 (fV 4 ai)))))) [sJ aa,sI ae,lT (st.1.map b7),some (.dt st.2.1 st.2.2,true),sI x.2,some (x.1,false)]=some (!c6 (aq aa ae) st.1 x) :=
  bJ (dP (aI [.tup aa,.int ae,.lst (st.1.map b7),.int x.2] N9 m))
 have hw:fA aG (fV 5 ai) [sJ aa,sI ae,lT (st.1.map b7),some (.dt st.2.1 st.2.2,true),sI x.2,some (x.1,false)]=sS (kindOf x.1):=aI [x.1] rfl (j7 U);refine⟨some (x.1,false),?_⟩;cases hc:c6 (aq aa ae) st.1 x with
 |false=>
  rw[hc]at M;have es:eA (aq aa ae) st x=st:=by unfold eA;rw[hc];rfl
  rw[es];exact .inr (gR x.1 (by simp[ha]) hf (U5 (pB M rfl)))
 |true=>
  rw[hc]at M;left;refine gR x.1 (by simp[ha]) hf (cR (lb M rfl) ?_);by_cases hn:kindOf x.1 = "named"
  .have es:eA (aq aa ae) st x=(st.1++[⟨a7 1 x.1,a7 2 x.1,aL x.1,none,x.2⟩],st.2):=by unfold eA;rw[hc,if_pos rfl,if_pos hn]
   rw[es];refine pB (cr (bb:=false) hw (zh hn)) ?_;have O:av [x.1,.str "office"]=sS (a7 1 x.1)/\av [x.1,.str "person"]=sS (a7 2 x.1):=by
    obtain⟨a,k,ay,e,d⟩:=U;rw[e]at hn |-;replace hn:k = "named":=hn;cases d with
    |named d o p=>exact⟨bF (i:=1) cL rfl,bF (i:=2) cL rfl⟩
    |root=>exact eB hn
    |chosen=>exact eB hn
    |heir=>exact eB hn
    |three _ hk=>rcases hk with rfl|rfl|rfl<;>exact eB hn
    |other _ hk=>rcases hk with rfl|rfl|rfl|rfl|rfl<;>exact eB hn
   have n:aW [x.1]=sI (aL x.1):=by simp_all[tY,vv]
   have e2:f2 cO (aj 2) (fA bQ (af (fA hG (fV 5 (af (fA aW (fV 5 ai)) (fV 4 ai)))) ai)) [sJ aa,sI ae,lT (st.1.map b7),some (.dt st.2.1 st.2.2,true),sI x.2,some (x.1,false)]=lT (st.1.map b7++[b7 ⟨a7 1 x.1,a7 2 x.1,aL x.1,none,x.2⟩]):=by
    refine jh (x:=.lst (st.1.map b7)) (y:=.lst [b7 ⟨a7 1 x.1,a7 2 x.1,aL x.1,none,x.2⟩]) (b1:=false) (b2:=true) rfl ?_ (if_pos (dS (by rw[vI,length_singleton];lia)));exact aI [b7 ⟨a7 1 x.1,a7 2 x.1,aL x.1,none,x.2⟩] (aN (aI [x.1,.int (aL x.1),.int x.2] (bx rfl (bx (aI [x.1] rfl n) rfl)) (RS O.1 O.2 _ _)) rfl) (dh _ N9)
   have:=yG (i:=2) e2 (by have hq:=jP (st.1++[(⟨a7 1 x.1,a7 2 x.1,aL x.1,none,x.2⟩:Cl)]);rwa [uW]at hq);rw[uW];exact this
  .refine lb (cr (bb:=false) hw (So hn)) ?_;by_cases G:kindOf x.1 = "chosen"
   .have es:eA (aq aa ae) st x=(cV st.1 [a7 2 x.1] (a7 1 x.1) (fg 4 x.1)++[⟨a7 2 x.1,a7 3 x.1,fg 4 x.1,none,x.2⟩],st.2):=by simp_all[eA]
    rw[es];refine pB (cr (bb:=false) hw (zh G)) (yG (i:=2) (aI [.lst (st.1.map b7),x.1,.int x.2] rfl ?_) (jP _));obtain⟨a,k,ay,e,d⟩:=U;rw[e]at G |-;replace G:k = "chosen":=G;cases d with
    |chosen d b o p s=>exact FL st.1 T x.2
    |root=>exact eB G
    |named=>exact eB G
    |heir=>exact eB G
    |three _ hk=>rcases hk with rfl|rfl|rfl<;>exact eB G
    |other _ hk=>rcases hk with rfl|rfl|rfl|rfl|rfl<;>exact eB G
   .refine lb (cr (bb:=false) hw (So G)) ?_;by_cases hh:kindOf x.1 = "heir"
    .have es:eA (aq aa ae) st x=(st.1,eY st.2.1 [.inr (a7 2 x.1),.inr (a7 1 x.1)],dr st.2.1 st.2.2 [.inr (a7 2 x.1),.inr (a7 1 x.1)] (.str (a7 3 x.1))):=by simp_all[eA]
     rw[es];have O:av [x.1,.str "office"]=sS (a7 2 x.1)/\av [x.1,.str "by"]=sS (a7 1 x.1)/\av [x.1,.str "person"]=sS (a7 3 x.1):=by
      obtain⟨a,k,ay,e,d⟩:=U;rw[e]at hh |-;replace hh:k = "heir":=hh;cases d with
      |heir d b o p=>exact⟨bF (i:=2) cL rfl,bF (i:=1) cL rfl,bF (i:=3) cL rfl⟩
      |root=>exact eB hh
      |named=>exact eB hh
      |chosen=>exact eB hh
      |three _ hk=>rcases hk with rfl|rfl|rfl<;>exact eB hh
      |other _ hk=>rcases hk with rfl|rfl|rfl|rfl|rfl<;>exact eB hh
     exact pB (cr (bb:=false) hw (zh hh)) (LH (ks:=st.2.1) (vs:=st.2.2) (kd:=[.str (a7 2 x.1),.str (a7 1 x.1)]) (b:=false) rfl (aI [x.1,.str "person"] rfl O.2.2) (aN (aI [x.1,.str "office"] rfl O.1) (aN (aI [x.1,.str "by"] rfl O.2.1) rfl)) rfl rfl (by have:=h.hk;lia) N9)
    .refine lb (cr (bb:=false) hw (So hh)) ?_;have es:eA (aq aa ae) st x=(cV st.1 (st.1.map Cl.o) (a7 1 x.1) (aL x.1)++qO (aq aa ae) st.1 st.2.1 st.2.2 (a7 1 x.1) (aL x.1) x.2,st.2):=by simp_all[eA]
     rw[es];have hd:kindOf x.1 = "death":=by
      unfold c6 at hc;by_cases hd:kindOf x.1 = "death"
      .exact hd
      .rw[if_neg hd,if_neg (by simp[yS,hn,G,hh])]at hc;cases hc
     refine yG (i:=2) (aI [.tup aa,.int ae,.lst (st.1.map b7),.dt st.2.1 st.2.2,.int x.2] N9 ?_) (jP _);obtain⟨a,k,ay,e,d⟩:=U;have hk:k = "death":=by rw[e]at hd;exact hd
     subst hk;obtain⟨dd,p,rfl⟩:=d.deed.three Z9;have:=IN g ae st.1 T st.2.1 st.2.2 h.hs hx e;rw[this,e];rfl
theorem Em (K:KL):∀(l G:KL)(st:OZ)(dd:LS),B6 K G dd st->((G++l).map (·.2)).Nodup->∃M,B6 K (G++l) M (l.foldl (eA K) st)
 |[],G,st,dd,h,_=>⟨dd,by rw[uQ];exact h⟩
 |x::l,G,st,dd,h,hn=>by
  have hx:x.2∉G.map (·.2):=λhm=>by
   grind
  obtain⟨M,h'⟩:=h.step hx;have e:G++x::l=(G++[x])++l:=N9
  rw[e]at hn |-;exact Em K l _ _ _ h' hn
theorem En (K l:KL)(h:(l.map (·.2)).Nodup):∃dd,B6 K l dd (mL K l):=by
 have:=Em K l [] ([],[],[]) [] ⟨uN _,N9,N9,N9,N9,uN _⟩ h;exact this
theorem pM (h:(K.map (·.2)).Nodup):((dA K).map (·.2)).Nodup:=((bp _ _).map _).nodup_iff.mpr (List.Nodup.sublist (List.Sublist.map _ filter_sublist) h)
theorem FM {aa:LD}(g:hU aa)(ae:Int)(T:(dA (aq aa ae)).length<=60):t6 [.tup aa,.int ae]=lT ((bB (aq aa ae)).map b7)/\(bB (aq aa ae)).length<=60:=by
 have m:eF [.tup aa,.int ae]=lT ((dA (aq aa ae)).map λx=>.int x.2):=qy g ae;generalize f:aq aa ae=K at T m |-;have U:∀x∈dA K,x∈K/\aZ x.1=false:=λx hx=>by
  obtain⟨h1,h2⟩:=vN ((bp _ _).mem_iff.mp hx);simp_all
 have q:((dA K).map (·.2)).Nodup:=pM (by grind[gt]);obtain⟨ρ',e,k,i,rfl⟩:=fB (tg:=da 4) (g:=mn) (λj ρ=>∃k i:OB,ρ=[sJ aa,sI ae,lT ((mL K ((dA K).take j)).1.map b7),some (.dt (mL K ((dA K).take j)).2.1 (mL K ((dA K).take j)).2.2,true),k,i]) ((dA K).map λx=>.int x.2)
  _ ⟨none,none,rfl⟩ (by
   rintro j d ρ hd ⟨k,i,rfl⟩;rw[vA]at hd;obtain⟨x,hx,rfl⟩:=oY hd;have E:(dA K).take (j+1)=(dA K).take j++[x]:=by rw[take_add_one,hx];rfl
   have t:mL K ((dA K).take (j+1))=eA K (mL K ((dA K).take j)) x:=by simp_all[mL]
   obtain⟨u,v⟩:=U x (vL hx);obtain⟨dd,h⟩:=En K ((dA K).take j) (List.Nodup.sublist (List.Sublist.map _ (take_sublist _ _)) q);rw[<-f]at h;have G:=LJ g ae h (by rw[f,length_take];lia) (x:=x) (by rw[f];exact u) v i;rw[f]at G;obtain⟨w,G⟩:=G;exact⟨_,_,rfl,G,sI x.2,w,by rw[t]⟩)
 have z:(dA K).take ((dA K).map λx=>D.int x.2).length=dA K:=N9
 rw[z]at e;obtain⟨dd,M⟩:=En K (dA K) q;generalize A:(mL K (dA K))=st at e M;have B:st.1.length<=60:=by have:=M.len;lia
 have r:bB K=dR (λc=>cC (kC c)) st.1:=by unfold bB;rw[A]
 have hm:∀ρ:DL.Env,kn (y7 lF ρ) (st.1.map b7)=some (st.1.map λc=>.tup [.str c.o,.int c.s,.int c.n]):=λρ=>hJ st.1 λc _=>by
  rfl
 have hk:ee (st.1.map λc=>D.tup [.str c.o,.int c.s,.int c.n])=some (st.1.map kC):=gf st.1 λc _=>rfl;have O:(st.1.map kC).length<64/\dj (st.1.map kC)=true/\c9 (st.1.map kC)=true/\((st.1.map kC).map cC).Nodup:=by
  refine⟨by rw[vI];lia,El _,?_,?_⟩
  .simp_all[c9,kC]
  .rw[uP];have h1:st.1.Pairwise λa b=>(a.o,a.n)≠(b.o,b.n):=pairwise_map.mp M.nod;have h2:st.1.Pairwise λa b=>cC (kC a)≠cC (kC b):=by
    refine List.Pairwise.imp_of_mem ?_ h1;intro a b ha hb C e;exact C (Pc ha hb e)
   exact pairwise_map.mpr h2
 have hz:(st.1.map kC).zip (st.1.map b7)=st.1.map λc=>(kC c,b7 c):=by rw[zip_map']
 have l:((bB K).map λc=>(kC c,b7 c))=dR (λp:List At×D=>cC p.1) (st.1.map λc=>(kC c,b7 c)):=by
  rw[r];refine jH _ (λx hx y hy e=>?_) ((bp _ _).map _) ?_
  .grind[xx]
  .exact pairwise_map.mpr (iO _ _)
 refine⟨au rfl (bV (ds:=[]) I9 rfl (cR  rfl (cR (i6 (ds:=(dA K).map λx=>.int x.2) ?_ e) (aw ?_)))),by rw[r,(bp _ _).length_eq];exact B⟩
 .show(fA eF (fV 0 (fV 1 ai)) _).bind _=_;rw[aI [.tup aa,.int ae] rfl m];rfl
 .unfold sq;show((some (D.lst (st.1.map b7),false)).bind _)=_;simp only[vJ];rw[hm];simp only[vJ];rw[hk];simp only[vJ];rw[if_pos O];unfold gZ;rw[hz,<-l,uP];rfl
end Lw
namespace Lw
open PySem PySem.Spec DL L2
def jR (x:Int×OI):D:=.tup [.int x.1,uD x.2]
theorem lQ (x:Int×OI):bC (jR x)=true:=by simp[jR,Eh]
theorem xy (x:Int×OI):br 5 (jR x)=true:=by obtain⟨s,u⟩:=x;cases u<;>simp[jR,uD]
theorem Pd {zs:LS}{i:Int}(h1 : -(zs.length:Int)<=i)(h2:i<zs.length):∃z∈zs,bN (.lst (zs.map .str)) (.int i)=sS z:=by
 obtain⟨j,hj,hl⟩:∃j,GD (zs.map D.str).length i=some j/\j<zs.length:=by
  unfold GD;rw[vI];by_cases h0:0<=i
  .simp_all
  .rw[if_neg h0,if_pos M9];exact⟨_,rfl,M9⟩
 simp_all[pW]
noncomputable def MR:LN:=[7,255,3,15]
noncomputable def MS:LN:=[1,2,3,4,5,7,128,255]
inductive Dd:Str->List D->Prop
 |root (o r:Str) (m:Nat) (hm:m∈MR) (f:Int):Dd ("root" : Str) [.str o,.int m,.int f,.str r]
 |named (d:Int) (o p:Str):Dd ("named" : Str) [.int d,.str o,.str p]
 |chosen (d:Int) (b o p:Str) (s:Int):Dd ("chosen" : Str) [.int d,.str b,.str o,.str p,.int s]
 |heir (d:Int) (b o p:Str):Dd ("heir" : Str) [.int d,.str b,.str o,.str p]
 |three (k:Str) (hk:k = "death" \/ k = "lost" \/ k = "found") (d:Int) (p:Str):Dd k [.int d,.str p]
 |leave (d:Int) (b p:Str) (m:Nat) (hm:m∈MS) (x:Int×Option Int) (f:Int):Dd ("leave" : Str) [.int d,.str b,.str p,.int m,jR x,.int f]
 |paper (k:Str) (hk:k = "paper" \/ k = "like") (d:Int) (b:Str) (m:Nat) (hm:m∈MS) (x:Int×Option Int) (r:List D) (hf:b8 r=true) (hp:r.all (br 5)=true):Dd k (.int d::.str b::.int m::jR x::r)
 |copy (k:Str) (hk:k = "copy" \/ k = "call") (d:Int) (b:Str) (n:Nat):Dd k [.int d,.str b,.int n]
theorem Dd.cd (h:Dd k r):Cd k r:=by
 cases h with
 |root o r m hm f=>exact .root _ _ _ _
 |named d o p=>exact .named _ _ _
 |chosen d b o p s=>exact .chosen _ _ _ _ _
 |heir d b o p=>exact .heir _ _ _ _
 |three k hk d p=>exact .three _ hk _ _
 |leave d b p m hm x f=>exact .other _ (.inl rfl) _ _ _ (by simp[lQ]) (by simp_all[xy])
 |paper k hk d b m hm x r hf hp=>exact .other _ (hk.elim (λh=>.inr (.inl h)) λh=>.inr (.inr (.inl h))) _ _ _ (by simp[hf,lQ]) (by simp_all[xy])
 |copy k hk d b n=>exact .other _ (hk.elim (λh=>.inr (.inr (.inr (.inl h)))) λh=>.inr (.inr (.inr (.inr h)))) _ _ _ rfl N9
theorem Dd.flat (h:Dd k r):b8 r=true:=h.cd.deed.flat
def cy (r:D):Prop:=∃h k ay,r=row h k ay/\Dd k ay
theorem cy.c (g:cy r):yN r:=by obtain⟨h,k,ay,e,d⟩:=g;exact⟨h,k,ay,e,d.cd⟩
theorem cy.flat (g:cy r):bC r=true:=g.c.rp.flat
noncomputable def ju (aa:LD):LS:=(aa.filter aZ).map (a7 0)
theorem FN (aa:LD)(r:D):ju (aa++[r])=ju aa++if aZ r=true then [a7 0 r]else []:=by
 grind[ju]
theorem xz (a b:Nat):iX [.int a,.int b]=sO (decide (a &&& b=b)):=by
 have:Builtin.bitAnd (a:Int) (b:Int)=((a &&& b:Nat):Int):=by simp[Builtin.bitAnd]
 simp[iX,t9,this];lia
def lg (r:D):Nat:=(if kindOf r = "root" then fg 1 r else if kindOf r = "leave" then fg 3 r else fg 2 r).toNat
theorem lR (a:Int)(k:Str)(ay:LD):kindOf (row a k ay)=k:=rfl
noncomputable def fD:LS:=[("leave" : Str),"paper","like"]
theorem ur (g:cy r)(h:aZ r=true):∃a o rl,∃m:Nat,∃f:Int,r=row a ("root" : Str) [.str o,.int m,.int f,.str rl]/\m∈MR/\lg r=m:=by
 obtain⟨a,k,ay,rfl,d⟩:=g;have hk:k = "root":=Ss h;clear h;cases d with
 |root o rl m hm f=>exact⟨a,o,rl,m,f,rfl,hm,H9⟩
 |named=>exact eB hk
 |chosen=>exact eB hk
 |heir=>exact eB hk
 |three k G=>rcases G with rfl|rfl|rfl<;>exact eB hk
 |leave=>exact eB hk
 |paper k G=>rcases G with rfl|rfl<;>exact eB hk
 |copy k G=>rcases G with rfl|rfl<;>exact eB hk
theorem Eo (g:cy r)(h:aZ r=true):av [r,.str "matters"]=sI (lg r):=by
 obtain⟨a,o,rl,m,f,rfl,_,e⟩:=ur g h;rfl
theorem Pe {a:Int}{k:Str}{ay:LD}(d:Dd k ay)(h:k∈fD):lg (row a k ay)∈MS/\(∃i:Nat,mW ce (.str k) (.str "matters")=sI i/\ay[i]? = some (.int (lg (row a k ay))))/\(D.str k::ay).getD (3+if k = "leave" then 1 else 0) .non=.int (lg (row a k ay))/\(3+if k = "leave" then 1 else 0)<(D.str k::ay).length:=by
 cases d with
 |leave d b p m hm x f=>
  have e:lg (row a ("leave" : Str) [.int d,.str b,.str p,.int m,jR x,.int f])=m:=H9
  refine⟨hm,⟨3,cL,rfl⟩,?_,?_⟩
  .rfl
  simp
 |paper k hk d b m hm x r hf hp=>
  have hl:k ≠ "leave":=by rcases hk with rfl|rfl<;>decide +kernel
  have M:k ≠ "root":=by rcases hk with rfl|rfl<;>decide +kernel
  have e:lg (row a k (.int d::.str b::.int m::jR x::r))=m:=by unfold lg;rw[lR,if_neg M,if_neg hl];rfl
  rw[e];refine⟨hm,⟨2,by rcases hk with rfl|rfl<;>exact cL,rfl⟩,?_,?_⟩
  .rw[if_neg hl];rfl
  simp_all
 |root=>exact eB h
 |named=>exact eB h
 |chosen=>exact eB h
 |heir=>exact eB h
 |three k G=>rcases G with rfl|rfl|rfl<;>exact eB h
 |copy k G=>rcases G with rfl|rfl<;>exact eB h
theorem yU (g:cy r)(h:kindOf r∈fD):av [r,.str "matters"]=sI (lg r):=by
 obtain⟨a,k,ay,rfl,d⟩:=g;obtain⟨_,⟨i,h1,h2⟩,_⟩:=Pe  d h;exact bF h1 h2
noncomputable def cb:LS:=[("leave" : Str),"paper","like","copy"]
theorem kL (h:k∈cb\/k = "call"):eJ k=true:=by
 grind[tW,cb,AQ]
theorem LL {k:Str}{ay:LD}(d:Dd k ay)(h:eJ k=true):∃(dd:Int)(b:Str)(r:LD),ay=.int dd::.str b::r:=d.cd.deed.slg h
theorem Ep (g:cy r)(h:eJ (kindOf r)=true):av [r,.str "by"]=sS (dN r):=by
 obtain⟨a,k,ay,rfl,d⟩:=g;obtain⟨dd,b,q,rfl⟩:=LL d h;exact bF  (II h) rfl
noncomputable def bX (K:KL):LD:=(K.filter λx=>aZ x.1).map (·.1)
theorem AZ:∀(l:List (ft×D))(a:LK×LD),(a.1++l.map (·.1)).Nodup->l.foldl nc a=(a.1++l.map (·.1),a.2++l.map (·.2))
 |[],a,_=>by simp
 |p::l,a,h=>by
  have hn:p.1∉a.1:=by
   grind
  have e:nc a p=(a.1++[p.1],a.2++[p.2]):=by simp_all[nc,eY,dr]
  rw[foldl_cons,e,AZ l _ (by rw[append_assoc];exact h)];simp
section
variable {K:KL}(hn:((bX K).map (a7 0)).Nodup)
include hn
theorem ut:ci (kY K)=((bX K).map λv=>(.inr (a7 0 v):ft),bX K):=by
 have e:kY K=(bX K).map λv=>((.inr (a7 0 v):ft),v):=by unfold kY bX;rw[uP];rfl
 have G:((bX K).map λv=>(.inr (a7 0 v):ft)).Nodup:=by
  refine pairwise_map.mpr ((pairwise_map.mp hn).imp λh z=>h (Sum.inr.inj z))
 rw[e];unfold ci;rw[AZ _ _ (by rw[uP];exact G),uP,uP];congr 1;exact map_id _
end
noncomputable def FP (j:Nat):D->Int×OI
 |.tup [_,.tup (_::ay)]=>match ay[j]? with
  |some (.tup [.int s,.int u])=>(s,some u)
  |some (.tup [.int s,.non])=>(s,none)
  |_=>(0,none)
 |_=>(0,none)
theorem qZ {h:Int}{k:Str}{ay:LD}{j:Nat}{x:Int×OI}(e:ay[j]? = some (jR x)):FP j (row h k ay)=x:=by
 unfold FP row;simp  [e];obtain⟨s,u⟩:=x;cases u<;>rfl
def fE (r:D):Int×OI:=if kindOf r = "leave" then FP 4 r else FP 3 r
def jS (r:D):Int:=if kindOf r = "root" then fg 2 r else fg 5 r
def lS (r:D):Bool:=decide (kindOf r = "leave")
theorem qC {r:D}(g:cy r)(h:kindOf r = "leave"):∃a d b p,∃m:Nat,∃x f,r=row a ("leave" : Str) [.int d,.str b,.str p,.int m,jR x,.int f]/\m∈MS/\lg r=m/\fE r=x/\jS r=f:=by
 obtain⟨a,k,ay,rfl,d⟩:=g;have hk:k = "leave":=h;clear h;cases d with
 |leave d b p m hm x f=>exact⟨a,d,b,p,m,x,f,rfl,hm,H9,by unfold fE;rw[lR,if_pos rfl];exact qZ rfl,H9⟩
 |root=>exact eB hk
 |named=>exact eB hk
 |chosen=>exact eB hk
 |heir=>exact eB hk
 |three k G=>rcases G with rfl|rfl|rfl<;>exact eB hk
 |paper k G=>rcases G with rfl|rfl<;>exact eB hk
 |copy k G=>rcases G with rfl|rfl<;>exact eB hk
theorem LM {a:Int}{k:Str}{ay:LD}(d:Dd k ay)(h:k∈fD):(∃i:Nat,mW ce (.str k) (.str "stretch")=sI i/\ay[i]? = some (jR (fE (row a k ay))))/\(D.str k::ay).getD (4+if k = "leave" then 1 else 0) .non=jR (fE (row a k ay))/\(4+if k = "leave" then 1 else 0)<(D.str k::ay).length:=by
 cases d with
 |leave d b p m hm x f=>
  have e:fE (row a ("leave" : Str) [.int d,.str b,.str p,.int m,jR x,.int f])=x:=by unfold fE;rw[lR,if_pos rfl];exact qZ rfl
  rw[e];exact⟨⟨4,cL,rfl⟩,rfl,N9⟩
 |paper k hk d b m hm x r hf hp=>
  have hl:k ≠ "leave":=by rcases hk with rfl|rfl<;>decide +kernel
  have e:fE (row a k (.int d::.str b::.int m::jR x::r))=x:=by unfold fE;rw[lR,if_neg hl];exact qZ rfl
  rw[e,if_neg hl];exact⟨⟨3,by rcases hk with rfl|rfl<;>exact cL,rfl⟩,rfl,N9⟩
 |root=>exact eB h
 |named=>exact eB h
 |chosen=>exact eB h
 |heir=>exact eB h
 |three k G=>rcases G with rfl|rfl|rfl<;>exact eB h
 |copy k G=>rcases G with rfl|rfl<;>exact eB h
theorem Er (g:cy r)(h:kindOf r∈fD):av [r,.str "stretch"]=some (jR (fE r),false):=by
 obtain⟨a,k,ay,rfl,d⟩:=g;obtain⟨⟨i,h1,h2⟩,_⟩:=LM  d h;exact bF h1 h2
theorem yV (h:kindOf r = "leave"):kindOf r∈fD:=by rw[h];decide +kernel
theorem Na (g:cy r)(h:aZ r=true\/kindOf r = "leave"):av [r,.str "further"]=sI (jS r):=by
 rcases h with h|h
 .obtain⟨a,o,rl,m,f,rfl,_,_⟩:=ur g h;rfl
 .obtain⟨a,d,b,p,m,x,f,e,_,_,_,G⟩:=qC g h;rw[e];rfl
def lU (r v:D):Bool:=decide (lg v &&& lg r=lg r) && !(lS r && decide (jS v<=jS r))
def pN (r v:D):D:=if decide (lg v &&& lg r=lg r)=true then (if(lS r && decide (jS v<=jS r))=true then .str "further" else .non)else .str "matters"
theorem Ba (M:cy r)(gv:cy v)(b:kindOf r∈fD)(kv:aZ v=true\/kindOf v = "leave"):∃d,js [r,v]=some (d,false)/\BS d .non=sO (lU r v)/\d=pN r v:=by
 have O :=kv.elim (Eo gv) λh=>yU gv (yV h);have T:aY (fA iX (af (fA av (fV 1 (af (fS "matters") ai))) (af (fA av (fV 0 (af (fS "matters") ai))) ai))) [some (r,false),some (v,false)]=some _:=dP (aI _ (aN (aI [v,.str "matters"] rfl O) (aN (aI [r,.str "matters"] rfl (yU M b)) rfl)) (xz _ _));have e:aY (f2 dz (fA aG (fV 0 ai)) (fS "leave")) [some (r,false),some (v,false)]=some (lS r):=cr (a:=kindOf r) (bb:=false) (aI [r] rfl (j7 M.c)) rfl;have f:lS r=true->aY (f2 To (fA av (fV 0 (af (fS "further") ai))) (fA av (fV 1 (af (fS "further") ai)))) [some (r,false),some (v,false)]=some _:=λh=>dP (bL (.int (jS r)) (.int (jS v)) (aI [r,.str "further"] rfl (Na M (.inr (Ss h)))) (aI [v,.str "further"] rfl (Na gv kv)) rfl);have U:=eP e f;unfold lU;cases G:decide (lg v &&& lg r=lg r) with
 |false=>exact⟨.str "matters",au rfl (bD (bJ (p:=false) (T.trans (by rw[G]))) (aw rfl)),rfl,by simp only[pN,G];rfl⟩
 |true=>
  cases hB:(lS r && decide (jS v<=jS r)) with
  |true=>exact⟨.str "further",au rfl (a9 (bJ (p:=true) (T.trans (by rw[G]))) (bD (U.trans (by rw[hB])) (aw rfl))),rfl,by simp only[pN,G,hB];rfl⟩
  |false=>exact⟨.non,au rfl (a9 (bJ (p:=true) (T.trans (by rw[G]))) (a9 (U.trans (by rw[hB])) (aw rfl))),rfl,by simp only[pN,G,hB];rfl⟩
theorem uu (h:k∈fD):k∈cb:=by
 have:∀k∈fD,k∈cb:=Z9
 exact this k h
theorem jv (h:kindOf r∈fD):aZ r=false:=by
 have:∀k∈fD,decide (k = "root")=false:=Z9
 exact this _ h
theorem uw (g:cy r)(h:aZ r=false):aW [r]=sI (aL r):=by
 have:=tY g.c;simp_all[vv]
def pO (cs:List Cl)(r v:D):Bool:=jd cs (a7 0 v) (a7 3 v) (dN r) (aL r) && lU r v
def IP (cs:List Cl)(r v:D):D:=if jd cs (a7 0 v) (a7 3 v) (dN r) (aL r)=true then pN r v else .str "holder"
theorem LO (cs:List Cl)(G:cs.length<=60)(M:cy r)(gv:cy v)(O:kindOf r∈fD)(hv:aZ v=true):∃d,iA [.lst (cs.map b7),r,v]=some (d,false)/\BS d .non=sO (pO cs r v)/\d=IP cs r v:=by
 obtain⟨d,b,e2,c⟩:=Ba M gv O (.inl hv);have U:aY (fA cY (fV 0 (fV 2 (af (fA av (fV 1 (af (fS "by") ai))) (af (fA aW (fV 1 ai)) ai))))) [sL (cs.map b7),some (r,false),some (v,false)]=some (jd cs (a7 0 v) (a7 3 v) (dN r) (aL r)):=by
  refine dP (aI _ (bx rfl (bx rfl (aN (aI _ rfl (Ep M (kL (.inl (uu O))))) (aN (aI [r] rfl (uw M (jv O))) rfl)))) ?_);obtain⟨a,o,rl,m,f,rfl,_,_⟩:=ur gv hv;exact yQ cs G _ _
 unfold pO;cases T:jd cs (a7 0 v) (a7 3 v) (dN r) (aL r) with
 |false=>exact⟨.str "holder",au rfl (bD (bJ (p:=false) (U.trans (by rw[T]))) (aw rfl)),rfl,by simp only[IP,T];rfl⟩
 |true=>exact⟨d,au rfl (a9 (bJ (p:=true) (U.trans (by rw[T]))) (aw (aI [r,v] rfl b))),e2,by grind[IP]⟩
def FQ (cs:List Cl)(r v:D):Int:=match kX cs (a7 0 v) (a7 3 v) (aL r) with
 |.tup [_,_,.int n]=>n
 |_=>0
theorem IQ (h:jd cs o rl p day=true):∃n:Int,kX cs o rl day=.tup [.str "one",.str p,.int n]:=by
 unfold jd kX at h;unfold kX;generalize RP cs o _=G at h |-;cases G with
 |nil=>
  have h:fu (.tup [.str _]) _=true:=h;simp_all
 |cons b r=>
  rw[q8]at h |-;split at h
  .have h:fu (.tup [.str _,.lst _]) _=true:=h;simp_all
  .rename_i hn;rw[if_neg hn];have h:fu (.tup [.str _,.str _]) _=true:=h;simp_all
theorem LP (h:jd cs (a7 0 v) (a7 3 v) (dN r) (aL r)=true):kX cs (a7 0 v) (a7 3 v) (aL r)=.tup [.str "one",.str (dN r),.int (FQ cs r v)]:=by
 obtain⟨n,e⟩:=IQ h;unfold FQ;rw[e]
def RT (cs:List Cl)(r v:D):D:=.tup [.str "office",.str (a7 0 v),.int (FQ cs r v)]
theorem ux (g:∀r∈aa,cy r)(hv:v∈bX (aq aa ae)):cy v/\aZ v=true:=by
 obtain⟨x,hx,rfl⟩:=vO hv;obtain⟨h1,h2⟩:=vN hx;exact⟨g _ (vL (bA h1)),h2⟩
theorem IS (hl:aa.length<=60)(ae:Int):(bX (aq aa ae)).length<=60:=by
 unfold bX;rw[vI];exact vR (vM _ _) (vR (cM _ _) hl)
theorem FR {aa:LD}(g:∀r∈aa,cy r)(hl:aa.length<=60)(ae:Int)(hn:((bX (aq aa ae)).map (a7 0)).Nodup)(cs:List Cl)(M:cs.length<=60){T:Nat}{r:D}(U:aa[T]? = some r)(h:kindOf r∈fD):
    iY [.tup aa,.int ae,.lst (cs.map b7),.int T]=lT (((bX (aq aa ae)).filter (pO cs r)).map (RT cs r)):=by
  have i:hU aa:=⟨hl,λr U=>(g r U).c⟩;have b:=g r (vL U);have j:=IS hl ae;have h1:=gd (fi:=sy (fA gT (fV 0 (fV 1 ai)))) (nT:=1) (cap:=[2,4]) (tg:=da 0) (c:=aY (f2 BS (fA iA (fV 1 (fV 2 (fV 0 ai)))) (fC .non))) (fe:=aj 0)
    (ρ:=[sJ aa,sI ae,sL (cs.map b7),sI T,some (r,false),none]) (bX (aq aa ae)) id (pO cs r) id
    (by show(fA gT _ _).bind _=_;rw[aI [.tup aa,.int ae] rfl (ui i ae),ut hn];simp) M9 λv hv=>by
      obtain⟨gv,G⟩:=ux g hv;obtain⟨d,k,e2,_⟩:=LO cs M b gv h G;exact⟨[some (v,false),sL (cs.map b7),some (r,false)],rfl,dP (bL d .non (aI [.lst (cs.map b7),r,v] rfl k) rfl e2),λ_=>⟨false,rfl⟩⟩
  rw[map_id]at h1;have l:b8 ((bX (aq aa ae)).filter (pO cs r))=true:=bH λv hv=>(ux g (vN hv).1).1.flat;refine au rfl (gR r (bL (.tup aa) (.int T) rfl rfl (by simp[bK U])) b.flat (bV h1 l (aw ?_)));refine iQ (fi:=bT (aj 5)) (nT:=1) (cap:=[2,4]) (tg:=da 0)
     ((bX (aq aa ae)).filter (pO cs r)) id (RT cs r) N9 (vR (vM _ _) M9) λv hv=>?_
  obtain⟨n,e⟩:=vN hv;obtain⟨gv,G⟩:=ux g n;have O:(jd cs (a7 0 v) (a7 3 v) (dN r) (aL r) && lU r v)=true:=e;rw[vC]at O;have hh:=LP O.1;refine⟨[some (v,false),sL (cs.map b7),some (r,false)],rfl,false,?_⟩;obtain⟨a,o,rl,m,f,rfl,_,_⟩:=ur gv G;refine aI [.str "office",.str o,.int (FQ cs r _)] (bx rfl (aN (aI _ rfl qA) (bx (bL (kX cs o rl (aL r)) (.int 2) (aI _ (bx rfl (bx rfl (aN (aI [r] rfl (uw b (jv h))) rfl))) (oJ cs M _)) rfl ?_) rfl))) (bG _ N9);have hh:kX cs o rl (aL r)=_:=hh;rw[hh];rfl
noncomputable def x0 (day:Int)(x:Int×OI):Bool:=decide (x.1<=day) && (match x.2 with|none=>true|some u=>decide (day<u))
noncomputable def RU:OI->OI->Bool
 |_,none=>true
 |none,some _=>false
 |some x,some y=>decide (x<=y)
theorem LQ (a b:OI):j5 [uD a,uD b]=sO (RU a b):=by
 cases b with
 |none=>rfl
 |some y=>
  cases a with
  |none=>rfl
  |some x=>rfl
def IT (a b:Int×OI):Bool:=decide (b.1<=a.1) && RU a.2 b.2
theorem Pf (a b:Int×OI):jt [jR a,jR b]=sO (IT a b) :=
 au rfl (aw (df (b1:=false) (by simp[jR,Cy]) λ_=>aI _ (bx (by simp[jR,FF]) (bx (by simp[jR,FF]) rfl)) (LQ _ _)))
theorem Nb {aa:LD}{i:Nat}{r:D}(G:aa[i]? = some r)(g:cy r)(h:aZ r=false):fU [.tup aa,.int i]=sJ [.int (aL r),.int i] :=
 au rfl (aw (aI _ (bx (aI _ (by simp[bK G]) (uw g h)) rfl) I9))
theorem U7 (a b c d:Int):Th (.tup [.int a,.int b]) (.tup [.int c,.int d])=sO (decide (a<c\/(a=c/\b<d))):=by
 show(bv _ _).map _=_;rw[OX];rfl
theorem Bb {aa:LD}{i j:Nat}{x y:D}(hx:aa[i]? = some x)(hy:aa[j]? = some y)(G:cy x)(M:cy y)(nx:aZ x=false)(O:aZ y=false):gJ [.tup aa,.int i,.int j]=sO (ge (x,i) (y,j)) :=
 au rfl (aw (bL _ _ (aI _ rfl (Nb hx G nx)) (aI _ rfl (Nb hy M O)) (U7 _ _ _ _)))
def C5 (r:D)(G:Nat)(x:D×Nat):Bool:=ge x (r,G) && ((x0 (aL r) (fE x.1) && IT (fE r) (fE x.1)) && lU r x.1)
def Es (r:D)(G:Nat)(x:D×Nat):D:=if ge x (r,G)=true then (if(x0 (aL r) (fE x.1) && IT (fE r) (fE x.1))=true then pN r x.1 else .str "days")else .str "order"
theorem LR {aa:LD}{M G:Nat}{r l:D}(e:aa[M]? = some r)(hl:aa[G]? = some l)(T:cy r)(U:cy l)(a:kindOf r∈fD)(b:kindOf l = "leave"):∃d,lJ [.tup aa,.int M,.int G]=some (d,false)/\BS d .non=sO (C5 r M (l,G))/\d=Es r M (l,G):=by
 have f:=jv a;have j:=jv (yV b);obtain⟨d,m,e2,n⟩:=Ba T U a (.inr b);let E:DL.Env:=[sJ aa,sI M,sI G,some (r,false),some (jR (fE l),false)];have g:∀ρ:DL.Env,ρ[0]? = some (sJ aa)->ρ[2]? = some (sI G)->f2 bN (aj 0) (aj 2) ρ=some (l,false):=λρ h0 h2=>bL (.tup aa) (.int G) (by simp[h0]) (by simp[h2]) (by simp[bK hl]);have c:aY (fA gJ (fV 0 (fV 2 (fV 1 ai)))) E=some (ge (l,G) (r,M)):=dP (aI [.tup aa,.int G,.int M] rfl (Bb hl e U T j f));have o:aY (fA iF (af (fA aW (fV 3 ai)) (fV 4 ai))) E=some (x0 (aL r) (fE l)):=dP (aI [.int (aL r),jR (fE l)] (aN (aI [r] rfl (uw T f)) (bx rfl rfl)) (yO _ _ _));have q:aY (fA jt (af (fA av (fV 3 (af (fS "stretch") ai))) (fV 4 ai))) E=some (IT (fE r) (fE l)):=dP (aI [jR (fE r),jR (fE l)] (aN (aI [r,.str "stretch"] rfl (Er T a)) (bx rfl rfl)) (Pf _ _));have i:=cD (bJ o) λ_=>bJ q;have go:∀(h:FS)(res:Option Res),h E=res->a6 (aU 3 (f2 bN (aj 0) (aj 1))) (a6 (aU 4 (fA av (af (f2 bN (aj 0) (aj 2)) (af (fS "stretch") ai)))) h) [sJ aa,sI M,sI G,none,none]=res:=λh res k=>
  gR r (bL (.tup aa) (.int M) rfl rfl (by simp[bK e])) T.flat (gR (jR (fE l)) (aI [l,.str "stretch"] (aN (g _ rfl rfl) rfl) (Er U (yV b))) (lQ _) k)
 unfold C5;cases O:ge (l,G) (r,M) with
 |false=>exact⟨.str "order",au rfl (go _ _ (bD (bJ (p:=false) (c.trans (by rw[O]))) (aw rfl))),rfl,by simp only[Es,O];rfl⟩
 |true=>
  cases hB:(x0 (aL r) (fE l) && IT (fE r) (fE l)) with
  |false=>exact⟨.str "days",au rfl (go _ _ (a9 (bJ (p:=true) (c.trans (by rw[O]))) (bD (i.trans (by rw[<-Bool.not_and,hB];rfl)) (aw rfl)))),rfl,by simp only[Es,O,hB];rfl⟩
  |true=>exact⟨d,au rfl (go _ _ (a9 (bJ (p:=true) (c.trans (by rw[O]))) (a9 (i.trans (by rw[<-Bool.not_and,hB];rfl)) (aw (aI [r,l] (bx rfl (aN (g _ rfl rfl) rfl)) m))))),e2,by rw[n];simp only[Es,O,hB];rfl⟩
theorem nB {aa:LD}{ae:Int}{i:Nat}{r:D}(M:aa[i]? = some r)(g:cy r):gI [.tup aa,.int ae,.int i]=sO (decide (aJ r<=ae) && lS r):=by
 have G:cK [.tup aa,.int ae,.int i]=sO (decide (aJ r<=ae)):=by
  obtain⟨a,k,ay,rfl,d⟩:=g;exact lO M _
 exact au rfl (aw (df (aI _ rfl G) λ_=>bL _ _ (aI _ (bx (bL _ _ rfl rfl (by simp[bK M])) rfl) (j7 g.c)) rfl (by simp[lS])))
noncomputable def vw (K:KL)(p:Str):KL:=(K.filter λx=>lS x.1).filter λx=>decide (a7 2 x.1=p)
theorem IU (g:∀r∈aa,cy r)(h:x∈vw (aq aa ae) p):aa[x.2]? = some x.1/\cy x.1/\kindOf x.1 = "leave":=by
 obtain⟨h1,_⟩:=vN h;obtain⟨h2,h3⟩:=vN h1;exact⟨bA h2,g _ (vL (bA h2)),Ss h3⟩
theorem FU {aa:LD}(g:∀r∈aa,cy r)(hl:aa.length<=60)(ae:Int)(p:Str):lK [.tup aa,.int ae,.str p]=lT ((vw (aq aa ae) p).map λx=>.int x.2):=by
 have M:=cM aa ae;have h1:=gd (fi:=bT (fA dJ (fV 0 (fV 1 ai)))) (nT:=1) (cap:=[0,1]) (tg:=da 0) (c:=aY (fA gI (fV 1 (fV 2 (fV 0 ai))))) (fe:=aj 0)
  (ρ:=[sJ aa,sI ae,sS p,none]) _ _ _ _
  (by show(fA dJ _ _).bind _=_;rw[aI _ rfl (lN aa (λr O=>(g r O).c.rp) M9 ae)];rfl) M9 λx hx=>by
   have hk :=(vN hx).2;have:=nB (ae:=ae) (bA hx) (g _ (vL (bA hx)));rw[hk,Bool.true_and]at this;exact⟨_,rfl,dP (aI _ rfl this),λ_=>⟨false,rfl⟩⟩
 have G:b8 (((aq aa ae).filter λx=>lS x.1).map λx=>D.int x.2)=true:=bH λd hd=>by obtain⟨x,_,rfl⟩:=vO hd;rfl
 refine au rfl (bV h1 G (aw ?_));refine gd (fi:=bT (aj 3)) (nT:=1) (cap:=[2,0]) (tg:=da 0)  (fe:=aj 0)
  (ρ:=[sJ aa,sI ae,sS p,lT (((aq aa ae).filter λx=>lS x.1).map λx=>.int x.2)]) ((aq aa ae).filter λx=>lS x.1) (λx=>.int x.2) _ _ N9 (vR (vM _ _) M9) λx hx=>?_
 obtain⟨h2,h3⟩:=vN hx;obtain⟨a,d,b,q,m,st,f,e,_⟩:=qC (g _ (vL (bA h2))) (Ss h3);refine⟨[sI x.2,sS p,sJ aa],rfl,dP (bL (.str (a7 2 x.1)) (.str p) (aI [x.1,.str "person"] (bx (bL (.tup aa) (.int x.2) rfl rfl (by simp[bK (bA h2)])) rfl) ?_) rfl N9),λ_=>⟨false,rfl⟩⟩;rw[e];rfl
theorem FV {aa:LD}(g:∀r∈aa,cy r)(hl:aa.length<=60)(ae:Int){G:Nat}{r:D}(M:aa[G]? = some r)(T:kindOf r∈fD):
    j6 [.tup aa,.int ae,.int G]=lT (((vw (aq aa ae) (dN r)).filter (C5 r G)).map λx=>.tup [.str "leave",.int x.2]):=by
  have U:=g r (vL M);have b:=cM aa ae;have c:(vw (aq aa ae) (dN r)).length<=60:=vR (vM _ _) (vR (vM _ _) M9);have O:b8 ((vw (aq aa ae) (dN r)).map λx=>D.int x.2)=true:=bH λd hd=>by obtain⟨x,_,rfl⟩:=vO hd;rfl
  refine au rfl (bV  (aI _ (bx rfl (bx rfl (aN (aI _ (bx (bL _ _ rfl rfl (by simp[bK M])) rfl) (Ep U (kL (.inl (uu T))))) rfl))) (FU g hl _ _)) O (aw ?_));refine gd
     _ (λx=>.int x.2) _ _ N9 M9 λx hx=>?_
  obtain⟨h1,h2,h3⟩:=IU g hx;obtain⟨d,a,e2,_⟩:=LR M h1 U h2 T h3;exact⟨[sF _,sF _,sF _],rfl,dP (bL d _ (aI _ rfl a) rfl e2),λ_=>⟨false,aI _ rfl (bG _ N9)⟩⟩
abbrev Bs:=Option Str×Int
noncomputable def Kf:Bs->D
 | (some o,n)=>.tup [.str "office",.str o,.int n]
 | (none,n)=>.tup [.str "leave",.int n]
noncomputable def Bc:Bs->List At
 | (some o,n)=>[.i n,.s ("office" : Str),.s o,.i n]
 | (none,n)=>[.i n,.s ("leave" : Str),.i n]
theorem IV (b:Bs):bC (Kf b)=true:=by rcases b with⟨_|o,n⟩<;>rfl
theorem LW (b:Bs):bN (Kf b) (.int (-1))=sI b.2:=by rcases b with⟨_|o,n⟩<;>rfl
theorem IW (a b:Bs):(bv (Bc a) (Bc b)).isSome=true:=by
 have M:("office" : Str) ≠ "leave":=Z9
 rcases a with⟨_|o,n⟩<;>rcases b with⟨_|o',G⟩
 .show(bv [.i n,.s _,.i n] [.i G,.s _,.i G]).isSome=true;rw[bv];split
  .simp_all[bv]
  .rfl
 .show(bv [.i n,.s _,.i n] [.i G,.s _,.s o',.i G]).isSome=true;rw[bv];split
  .rfl
  .rfl
 .show(bv [.i n,.s _,.s o,.i n] [.i G,.s _,.i G]).isSome=true;rw[bv];split
  .rfl
  .rfl
 .show(bv [.i n,.s _,.s o,.i n] [.i G,.s _,.s o',.i G]).isSome=true;rw[bv];split
  .rw[bv,if_pos rfl,bv];split
   .simp_all[bv]
   .rfl
  .rfl
theorem LX (h:Bc a=Bc b):a=b:=by
 rcases a with⟨_|o,n⟩<;>rcases b with⟨_|o',G⟩<;>simp[Bc]at h
 .rw[h]
 simp_all
theorem Et (l:List Bs):dj (l.map Bc)=true:=by
 simp_all[dj,IW]
theorem IX (e:cC (Bc a)=cC (Bc b)):a=b:=LX (mi (Et [a,b]) N9 N9 e)
def Qq (cs:List Cl)(r v:D):Bs:=(some (a7 0 v),FQ cs r v)
def vx (K:KL)(cs:List Cl)(r:D)(G:Nat):List Bs:=((bX K).filter (pO cs r)).map (Qq cs r)++((vw K (dN r)).filter (C5 r G)).map λx=>(none,(x.2:Int))
def C6 (K:KL)(cs:List Cl)(r:D)(G:Nat):List Bs:=dR (λb=>cC (Bc b)) (vx K cs r G)
theorem FW (hn:((bX (aq aa ae)).map (a7 0)).Nodup)(cs:List Cl)(r:D)(G:Nat):(vx (aq aa ae) cs r G).Nodup:=by
 unfold vx;rw[nodup_append];refine⟨?_,?_,?_⟩
 .exact pairwise_map.mpr ((List.Pairwise.sublist filter_sublist (pairwise_map.mp hn)).imp λh e=>h (vK (Prod.mk.inj e).1))
 .refine pairwise_map.mpr ((List.Pairwise.sublist (filter_sublist.trans (filter_sublist.trans filter_sublist)) (pairwise_map.mp (gt _ _))).imp λh e=>h ?_);lia
 .intro a ha b hb e;obtain⟨v,_,rfl⟩:=vO ha;obtain⟨x,_,rfl⟩:=vO hb;cases (Prod.mk.inj e).1
theorem xA {α:Type}{g:α->D}{h:α->List At}:∀(l:List α),(∀x∈l,OP (g x)=some (h x))->mE (l.map g)=some (l.map h)
 |[],_=>rfl
 |x::l,k=>by
  rw[uY,mE,k x mX,xA l λy hy=>k y (mZ _ hy)];rfl
theorem Eu (hl:aa.length<=30)(ae:Int)(cs:List Cl)(r:D)(G:Nat):(vx (aq aa ae) cs r G).length<=60:=by
 have h1:((bX (aq aa ae)).filter (pO cs r)).length<=30:=by
  grind[bX,cM]
 grind[cM,vw,vx]
theorem IY {f:FE}{ρ:DL.Env}{b:Bool}(l:List Bs)(hl:l.length<=60)(hn:l.Nodup)(e:f ρ=some (.lst (l.map Kf),b)):Ct f (qM [] (fA aM (af (f2 bN (aj 0) (f1 KY (fI 1))) (fV 0 ai)))) ρ=lT ((dR (λb=>cC (Bc b)) l).map Kf):=by
 have hm:kn (qM [] (fA aM (af (f2 bN (aj 0) (f1 KY (fI 1))) (fV 0 ai))) ρ) _=some _:=hJ l λb _=>by
  show(fA aM _ _).map _=_;rw[aI _ (bx (bL (Kf b) _ rfl rfl (LW b)) (bx rfl rfl)) (bG _ N9)];rfl
 have hk:mE (l.map λb=>D.tup [.int b.2,Kf b])=some (l.map Bc):=xA l λb _=>by rcases b with⟨_|o,n⟩<;>rfl
 have G:(l.map Bc).length<64/\dj (l.map Bc)=true/\True/\((l.map Bc).map cC).Nodup:=by
  refine⟨by rw[vI];lia,Et l,trivial,?_⟩;rw[uP];exact pairwise_map.mpr (List.Pairwise.imp (λh e=>h (IX e)) hn)
 unfold Ct y8;rw[e];simp only[vJ];rw[hm];simp only[vJ];rw[hk];simp only[vJ];rw[if_pos G];unfold gZ;have M:((dR (λb=>cC (Bc b)) l).map λb=>(Bc b,Kf b))=dR (λp=>cC p.1) (l.map λb=>(Bc b,Kf b)):=by
  refine jH _ (λx hx y hy e=>?_) ((bp _ _).map _) ?_
  .grind[IX]
  .exact pairwise_map.mpr (iO _ _)
 rw[zip_map',<-M,uP];rfl
section
variable {aa:LD}(g:∀r∈aa,cy r) (hl:aa.length<=30) (ae:Int) (hn:((bX (aq aa ae)).map (a7 0)).Nodup)
include g hl hn
theorem Bd (cs:List Cl)(h:cs.length<=60){G:Nat}{r:D}(O:aa[G]? = some r)(U:kindOf r∈fD)(hk:aJ r<=ae):fX [.tup aa,.int ae,.lst (cs.map b7),.int G]=lT ((C6 (aq aa ae) cs r G).map Kf):=by
 have e:=g r (vL O);have f:∀(ρ:DL.Env)(j:Nat),ρ[0]? = some (sJ aa)->ρ[j]? = some (sI G)->fA aG (af (f2 bN (aj 0) (aj j)) ai) ρ=sS (kindOf r):=λρ j h0 h2=>aI [r] (bx (bL (.tup aa) (.int G) (by simp[h0]) (by simp[h2]) (by simp[bK O])) rfl) (j7 e.c);have i:cK [.tup aa,.int ae,.int G]=sO true:=by
  obtain⟨a,k,ay,rfl,d⟩:=id e;rw[lO O ae,zh (show a<=ae from hk)]
 have l:dI [.tup aa,.int ae,.int G]=sO (decide _):=au rfl (aw (df (p:=true) (aI [.tup aa,.int ae,.int G] rfl i) λ_=>bL (.str (kindOf r)) (.tup ([("paper" : Str),"like","copy"].map .str)) (f _ 2 rfl rfl) rfl (ja _ _)));have hb:eG [.tup aa,.int ae,.int G]=sO true:=by
  refine(au rfl (aw (sM (aI [.tup aa,.int ae,.int G] rfl (nB O e)) λ_=>aI [.tup aa,.int ae,.int G] rfl l))).trans ?_;rw[zh hk,Bool.true_and];have:∀k∈fD,(decide (k = "leave") || decide (k∈[("paper" : Str),"like","copy"]))=true:=Z9
  unfold lS;rw[this _ U]
 have m:decide (kindOf r = "copy")=false:=by
  have:∀k∈fD,decide (k = "copy")=false:=Z9
  exact this _ U
 have T:=Eu hl ae cs r G;have n:b8 ((vx (aq aa ae) cs r G).map Kf)=true:=bH λd hd=>by obtain⟨b,_,rfl⟩:=vO hd;exact IV b
 refine au rfl (a9 (bJ (p:=true) (dP (aI [.tup aa,.int ae,.int G] rfl hb))) (a9 (cr (a:=kindOf r) (bb:=false) (f _ 3 rfl rfl) m) (bV  ?_ n (aw (IY (b:=false) _ T (FW hn cs r G) rfl)))));have o:=FR g M9 ae hn cs h O U;have hv:=FV g M9 ae O U;refine jh   (b1:=true) (b2:=true) (aI _ rfl o) (aI [.tup aa,.int ae,.int G] rfl hv) ?_;have M:=T;unfold vx at M |-;rw[uZ,vI,vI]at M;refine(if_pos (dS (by grind))).trans ?_;rw[uW,uP,uP];rfl
end
def C7 (K:KL)(c r:D):Bool:=decide (dN c=dN r) || (!decide (kindOf r = "copy") && (bX K).any λv=>decide (lg v &&& lg r=lg r) && jd (bB K) (a7 0 v) (a7 3 v) (dN c) (aL c))
theorem C8 {α:Type}(l:List α)(p f:α->Bool):((l.filter p).map f).any id=l.any λx=>p x && f x:=by
 simp
theorem Pg {aa:LD}(g:∀r∈aa,cy r)(hl:aa.length<=60)(ae:Int)(q:(bB (aq aa ae)).length<=60)(hn:((bX (aq aa ae)).map (a7 0)).Nodup){M O:Nat}{c r:D}(hc:aa[M]? = some c)(d:aa[O]? = some r)(h:kindOf c = "call")(i:kindOf r∈cb):
  no [.tup aa,.int ae,.lst ((bB (aq aa ae)).map b7),.int M,.int O]=sO (C7 (aq aa ae) c r):=by
 have s:hU aa:=⟨hl,λr d=>(g r d).c⟩;have j:=g c (vL hc);have e:=g r (vL d);have l:=bK hc;have t:=bK d;have u:=Ep j (kL (.inr h));have w:=Ep e (kL (.inl i));have T:∀v∈bX (aq aa ae),cy v/\aZ v=true:=λv hv=>by
  obtain⟨x,hx,rfl⟩:=vO hv;obtain⟨h1,h2⟩:=vN hx;exact⟨g _ (vL (bA h1)),h2⟩
 have y:(bX (aq aa ae)).length<=60:=by
  unfold bX;rw[vI];exact vR (vM _ _) (vR (cM aa ae) hl)
 have z:aW [c]=sI (aL c):=by
  have:=tY j.c;unfold vv at this;rwa [if_neg (by unfold aZ;rw[h];decide +kernel)]at this
 have n:∀(b:OB),aY (f2 dz (aj 6) (fA av (fV 5 (af (fS "by") ai)))) [sJ aa,sI ae,sL ((bB (aq aa ae)).map b7),sI M,sI O,some (r,false),sS (dN c),b]=some (decide (dN c=dN r)):=λb=>dP (bL (.str (dN c)) (.str (dN r)) rfl (aI [r,.str "by"] rfl w) N9);have p:∀(b:OB),aY (f2 dz (fA aG (fV 5 ai)) (fS "copy")) [sJ aa,sI ae,sL ((bB (aq aa ae)).map b7),sI M,sI O,some (r,false),sS (dN c),b]=some (decide (kindOf r = "copy")):=λb=>cr (a:=kindOf r) (bb:=false) (aI [r] rfl (j7 e.c)) rfl;refine au rfl (gR r (bL (.tup aa) (.int O) rfl rfl (by simp[t])) e.flat (gR (.str (dN c)) (aI [c,.str "by"] (bx (bL (.tup aa) (.int M) rfl rfl (by simp[l])) rfl) u) rfl ?_));unfold C7;cases h1:decide (dN c=dN r) with
 |true=>exact bD ((n none).trans (by rw[h1])) (aw rfl)
 |false=>
  refine a9 ((n none).trans (by rw[h1])) ?_;cases h2:decide (kindOf r = "copy") with
  |true=>exact bD ((p none).trans (by rw[h2])) (aw rfl)
  |false=>
   have A:kindOf r∈fD:=by
    have B:=of_decide_eq_false h2;have:∀k∈cb,k ≠ "copy"->k∈fD:=Z9
    exact this _ i B
   have pm:=yU e A;refine a9 ((p none).trans (by rw[h2])) ?_;have G:=gd (fi:=sy (fA gT (fV 0 (fV 1 ai)))) (nT:=1) (cap:=[5]) (tg:=da 0) (c:=aY (fA iX (af (fA av (fV 0 (af (fS "matters") ai))) (af (fA av (fV 1 (af (fS "matters") ai))) ai)))) (fe:=aj 0)
    (ρ:=[sJ aa,sI ae,sL ((bB (aq aa ae)).map b7),sI M,sI O,some (r,false),sS (dN c),none]) (bX (aq aa ae)) id (λv=>decide (lg v &&& lg r=lg r)) id
    (by show(fA gT _ _).bind _=_;rw[aI [.tup aa,.int ae] rfl (ui s ae),ut hn];simp) M9 λv hv=>by
     obtain⟨gv,U⟩:=T v hv;exact⟨[some (v,false),some (r,false)],rfl,dP (aI [.int (lg v),.int (lg r)] (aN (aI [v,.str "matters"] rfl (Eo gv U)) (aN (aI [r,.str "matters"] rfl pm) rfl)) (xz _ _)),λ_=>⟨false,rfl⟩⟩
   rw[map_id]at G;refine bV  G (bH λv hv=>(T v (vN hv).1).1.flat) (aw ?_);have C:=iQ (fi:=bT (aj 7)) (nT:=1) (cap:=[2,6,0,3]) (tg:=da 0) (fe:=fA cY (fV 1 (fV 0 (fV 2 (af (fA aW (af (f2 bN (aj 3) (aj 4)) ai)) ai)))))
    (ρ:=[sJ aa,sI ae,sL ((bB (aq aa ae)).map b7),sI M,sI O,some (r,false),sS (dN c),lT ((bX (aq aa ae)).filter λv=>decide (lg v &&& lg r=lg r))]) ((bX (aq aa ae)).filter λv=>decide (lg v &&& lg r=lg r)) id (λv=>.bl (jd (bB (aq aa ae)) (a7 0 v) (a7 3 v) (dN c) (aL c)))
    N9 (vR (vM _ _) M9) λv hv=>by
     obtain⟨gv,U⟩:=T v (vN hv).1;obtain⟨a,o,rl,m,f,rfl,_,_⟩:=ur gv U;exact⟨[some (row a ("root" : Str) [.str o,.int m,.int f,.str rl],false),sL ((bB (aq aa ae)).map b7),sS (dN c),sJ aa,sI M],rfl,false,aI _ (bx rfl (bx rfl (bx rfl (aN (aI [c] (bx (bL (.tup aa) (.int M) rfl rfl (by simp[l])) rfl) z) rfl)))) (yQ _ q _ _)⟩
   refine(aI [_] (aN C rfl) ?_);show(ym _).map _=_;rw[IE,Option.map_some,C8];rfl
theorem C9 (g:cy r)(h:kindOf r = "call"):∃a d b,∃n:Nat,r=row a ("call" : Str) [.int d,.str b,.int n]:=by
 obtain⟨a,k,ay,rfl,d⟩:=g;have hk:k = "call":=h;clear h;cases d with
 |copy k G d b n=>subst hk;exact⟨a,d,b,n,rfl⟩
 |root=>exact eB hk
 |named=>exact eB hk
 |chosen=>exact eB hk
 |heir=>exact eB hk
 |three k G=>rcases G with rfl|rfl|rfl<;>exact eB hk
 |leave=>exact eB hk
 |paper k G=>rcases G with rfl|rfl<;>exact eB hk
def FX (aa:LD)(ae:Int)(G:Nat)(r:D)(day:Int)(c:D):Bool:=decide (kindOf c = "call") && (decide (fg 2 c=G) && (decide (aL c<=day) && (jb aa ae c && C7 (aq aa ae) c r)))
theorem Ph (e:f ρ=some (.str a,bb)):aY (f2 wt f (fS b)) ρ=some (!decide (a=b)):=by simp_all
section
variable {aa:LD}(g:∀r∈aa,cy r) (hl:aa.length<=60) (ae:Int) (lW:(bB (aq aa ae)).length<=60) (hn:((bX (aq aa ae)).map (a7 0)).Nodup)
include g hl lW hn
theorem Be {M G:Nat}{c r:D}(hc:aa[M]? = some c)(U:aa[G]? = some r)(i:kindOf r∈cb)(day:Int):kG [.tup aa,.int ae,.lst ((bB (aq aa ae)).map b7),.int M,.int G,.int day]=sO (FX aa ae G r day c):=by
 have T:=g c (vL hc);have j:=bK hc;have f:aY (f2 wt (fA aG (fV 6 ai)) (fS "call")) [sJ aa,sI ae,sL ((bB (aq aa ae)).map b7),sI M,sI G,sI day,some (c,false)]=some (!decide (kindOf c = "call")):=Ph (a:=kindOf c) (bb:=false) (aI [c] rfl (j7 T.c));refine au rfl (gR c (bL (.tup aa) (.int M) rfl rfl (by simp[j])) T.flat ?_);unfold FX;by_cases hk:kindOf c = "call"
 .obtain⟨a,d,b,n,e⟩:=C9 T hk;have k:fg 2 c=(n:Int):=by rw[e];rfl
  have e2:aL c=d:=by rw[e];rfl
  have po:av [c,.str "of"]=sI n:=by rw[e];rfl
  have l:aW [c]=sI d:=by
   have:=tY T.c;unfold vv at this;rwa [if_neg (by unfold aZ;rw[hk];decide +kernel),e2]at this
  have m:aY (f2 wt (fA av (fV 6 (af (fS "of") ai))) (aj 4)) [sJ aa,sI ae,sL ((bB (aq aa ae)).map b7),sI M,sI G,sI day,some (c,false)]=some (!decide ((n:Int)=G)):=dP (bL (.int n) (.int G) (aI [c,.str "of"] rfl po) rfl N9);have o:aY (f2 Gs (fA aW (fV 6 ai)) (aj 5)) [sJ aa,sI ae,sL ((bB (aq aa ae)).map b7),sI M,sI G,sI day,some (c,false)]=some (decide (day<d)):=dP (bL (.int d) (.int day) (aI [c] rfl l) rfl rfl);have O:=cD f λ_=>cD m λ_=>o;rw[k,e2,zh hk,Bool.true_and];rw[zh hk]at O;by_cases h1:(n:Int)=G
  .by_cases h2:d<=day
   .rw[zh h1,zh h2,Bool.true_and,Bool.true_and];rw[zh h1,So M9]at O;exact a9 O (aw (df (aI [.tup aa,.int ae,.int M] rfl (tX aa (λr U=>(g r U).c.rp) M9 ae hc)) λ_=>aI _ rfl (Pg g hl ae lW hn hc U hk i)))
   .rw[So h2,Bool.false_and,Bool.and_false];rw[zh h1,zh (show day<d by lia)]at O;exact bD O (aw rfl)
  .rw[So h1,Bool.false_and];rw[So h1]at O;exact bD O (aw rfl)
 .rw[So hk,Bool.false_and];refine bD (cD (p:=true) (q:=false) (f.trans (by rw[So hk];rfl)) λh=>by cases h) (aw rfl)
def yW (aa:LD)(ae:Int)(G:Nat)(r:D)(day:Int):LN:=if aJ r<=ae/\kindOf r∈cb then ((aq aa ae).filter λx=>FX aa ae G r day x.1).map (·.2)else []
theorem Bf {G:Nat}{r:D}(M:aa[G]? = some r)(day:Int):np [.tup aa,.int ae,.lst ((bB (aq aa ae)).map b7),.int G,.int day]=lT ((yW aa ae G r day).map λn:Nat=>.int n):=by
 have b:=g r (vL M);have h:=bK M;have T:cK [.tup aa,.int ae,.int G]=sO (decide (aJ r<=ae)):=by
  obtain⟨a,k,ay,e,d⟩:=b;rw[e]at M;rw[show aJ r=a by rw[e];rfl];exact lO M ae
 have f:∀ρ:DL.Env,ρ[0]? = some (sJ aa)->ρ[2]? = some (sI G)->fA aG (af (f2 bN (aj 0) (aj 2)) ai) ρ=sS (kindOf r):=λρ h0 h2=>aI [r] (bx (bL (.tup aa) (.int G) (by simp[h0]) (by simp[h2]) (by simp[h])) rfl) (j7 b.c);have U:gI [.tup aa,.int ae,.int G]=sO (decide (aJ r<=ae) && decide (kindOf r = "leave")):=au rfl (aw (df (aI [.tup aa,.int ae,.int G] rfl T) λ_=>bL (.str (kindOf r)) (.str "leave") (f _ rfl rfl) rfl N9));have i:dI [.tup aa,.int ae,.int G]=sF _:=au rfl (aw (df (aI [.tup aa,.int ae,.int G] rfl T) λ_=>bL (.str (kindOf r)) (.tup ([("paper" : Str),"like","copy"].map .str)) (f _ rfl rfl) rfl (ja _ _)));have hb:eG [.tup aa,.int ae,.int G]=sO (decide (aJ r<=ae/\kindOf r∈cb)):=by
  refine(au rfl (aw (sM (aI [.tup aa,.int ae,.int G] rfl U) λ_=>aI [.tup aa,.int ae,.int G] rfl i))).trans ?_;congr 3;simp only[cb,mem_cons,not_mem_nil,or_false];by_cases h1:aJ r<=ae
  .simp[h1]
  .simp[h1]
 unfold yW;by_cases hx:aJ r<=ae/\kindOf r∈cb
 .rw[if_pos hx];refine au rfl (a9 (bJ (p:=true) (dP (aI [.tup aa,.int ae,.int G] rfl (by rw[hb,zh hx])))) (aw ?_));have O:=gd (fi:=bT (fA dJ (fV 0 (fV 1 ai)))) (nT:=1) (cap:=[0,1,2,3,4]) (tg:=da 0) (c:=aY (fA kG (fV 1 (fV 2 (fV 3 (fV 0 (fV 4 (fV 5 ai)))))))) (fe:=aj 0)
   (ρ:=[sJ aa,sI ae,sL ((bB (aq aa ae)).map b7),sI G,sI day]) (aq aa ae) (λx=>.int x.2) (λx=>FX aa ae G r day x.1) (λx=>.int x.2)
   (by show(fA dJ _ _).bind _=_;rw[aI [.tup aa,.int ae] rfl (lN aa (λr M=>(g r M).c.rp) M9 ae)];rfl) (vR (cM aa ae) M9) λx j=>by
    exact⟨_,rfl,dP (aI _ rfl (Be g hl ae lW hn (bA j) M hx.2 day)),λ_=>⟨false,rfl⟩⟩
  rw[uP];exact O
 .rw[if_neg hx];exact au rfl (bD (bJ (p:=false) (dP (aI [.tup aa,.int ae,.int G] rfl (by rw[hb,So hx])))) (aw (aI [] rfl (dh _ N9))))
omit lW in
end
noncomputable def cN:LS:=[("paper" : Str),"like","copy"]
noncomputable def LY (w:Str):Bs->D
 | (some o,n)=>.tup [.str "office",.str o,.int n]
 | (none,n)=>.tup [.str w,.int n]
def Pj (r:D):Str:=if kindOf r = "copy" then ("copy" : Str)else ("leave" : Str)
theorem FY {aa:LD}{n:Nat}(h:aa.length<=n)(ae:Int):cK [.tup aa,.int ae,.int n]=sO false:=by
 refine au rfl (aw (df (p:=false) (q:=false) (b1:=false) ?_ λz=>by cases z));have h1:¬(n:Int)<aa.length:=M9
 exact(jK (p:=true)    (z:=.int aa.length)   (b3:=false) (b4:=false) rfl rfl N9 N9 λ_=>by simp[h1])
theorem IZ {aa:LD}{i:Nat}{r:D}(G:aa[i]? = some r)(g:cy r)(ae:Int):cK [.tup aa,.int ae,.int i]=sO (decide (aJ r<=ae)):=by
 obtain⟨a,k,ay,rfl,d⟩:=g;exact lO G _
theorem Ev {aa:LD}{i:Nat}{r:D}(G:aa[i]? = some r)(g:cy r){ρ:DL.Env}{j:Nat}(h0:ρ[0]? = some (sJ aa))(hj:ρ[j]? = some (sI i)):fA aG (af (f2 bN (aj 0) (aj j)) ai) ρ=sS (kindOf r) :=
 aI _ (bx (bL (.tup aa) (.int i) (by simp[h0]) (by simp[hj]) (by simp[bK G])) rfl) (j7 g.c)
theorem uy {aa:LD}{i:Nat}{r:D}(G:aa[i]? = some r)(g:cy r)(ae:Int):dI [.tup aa,.int ae,.int i]=sO (decide (aJ r<=ae) && decide (kindOf r∈cN)) :=
 au rfl (aw (df (aI _ rfl (IZ G g _)) λ_=>bL _ (.tup (cN.map _)) (Ev G g rfl rfl) rfl (ja _ _)))
theorem Bg {aa:LD}{i:Nat}{r:D}(G:aa[i]? = some r)(g:cy r)(ae:Int):eG [.tup aa,.int ae,.int i]=sO (decide (aJ r<=ae) && decide (kindOf r∈cb)):=by
 refine(au rfl (aw (sM (aI _ rfl (nB G g)) λ_=>aI _ rfl (uy G g _)))).trans ?_;unfold lS;simp only[cb,cN,or_false];by_cases h1:aJ r<=ae
 .simp[h1]
 .simp[h1]
def oK (aa:LD)(ae:Int)(r:D)(G n:Nat):Bool:=match aa[n]? with
 |none=>false
 |some q=>(decide (aJ q<=ae) && decide (kindOf q∈cN)) && ge (q,n) (r,G)
theorem uz (g:cy r)(h:kindOf r = "copy"):∃a d b,∃n:Nat,r=row a ("copy" : Str) [.int d,.str b,.int n]:=by
 obtain⟨a,k,ay,rfl,d⟩:=g;have hk:k = "copy":=h;clear h;cases d with
 |copy k G d b n=>subst hk;exact⟨a,d,b,n,rfl⟩
 |root=>exact eB hk
 |named=>exact eB hk
 |chosen=>exact eB hk
 |heir=>exact eB hk
 |three k G=>rcases G with rfl|rfl|rfl<;>exact eB hk
 |leave=>exact eB hk
 |paper k G=>rcases G with rfl|rfl<;>exact eB hk
theorem u0 (h:kindOf r∈cN):aZ r=false:=by
 have:∀k∈cN,decide (k = "root")=false:=Z9
 exact this _ h
theorem FZ {aa:LD}(g:∀r∈aa,cy r)(ae:Int){G:Nat}{r:D}(O:aa[G]? = some r)(T:kindOf r = "copy"):∃n:Nat,fg 2 r=n/\kF [.tup aa,.int ae,.int G]=lT ((if oK aa ae r G n=true then [((none,(n:Int)):Bs)]else []).map (LY ("copy" : Str))):=by
 have U:=g r (vL O);obtain⟨a,d,b,n,er⟩:=uz U T;have e:aZ r=false:=u0 (by rw[T];decide +kernel);have po:av [r,.str "of"]=sI n:=by rw[er];rfl
 refine⟨n,by rw[er];rfl,?_⟩;let E:DL.Env:=[sJ aa,sI ae,sI G,sI n];refine au rfl (gR (.int n) (aI [r,.str "of"] (bx (bL (.tup aa) (.int G) rfl rfl (by simp[bK O])) rfl) po) rfl ?_);have M:fy (aY (fA dI (fV 0 (fV 1 (fV 3 ai))))) (aY (fA gJ (fV 0 (fV 3 (fV 2 ai))))) E=some (oK aa ae r G n):=by
  unfold oK;cases hq:aa[n]? with
  |none=>
   have hn:aa.length<=n:=List.getElem?_eq_none_iff.mp hq;exact eP (p:=false) (q:=false) (dP (aI [.tup aa,.int ae,.int n] rfl (au rfl (aw (df (p:=false) (q:=false) (aI [.tup aa,.int ae,.int n] rfl (FY hn ae)) λz=>by cases z))))) λz=>by cases z
  |some q=>
   have c:=g q (vL hq);exact eP (dP (aI [.tup aa,.int ae,.int n] rfl (uy hq c ae))) λh=>by
    rw[vC]at h;exact dP (aI [.tup aa,.int n,.int G] rfl (Bb hq O c U (u0 (Ss h.2)) e))
 cases hv:oK aa ae r G n with
 |true=>
  rw[hv]at M;rw[if_pos rfl];exact bD M (aw (aI [.tup [.str "copy",.int n]] (bx (aI [.str "copy",.int n] rfl (bG _ N9)) rfl) (dh _ N9)))
 |false=>
  rw[hv]at M;rw[if_neg V9];exact a9 M (aw (aI [] rfl (dh _ N9)))
def qD (aa:LD)(ae:Int)(cs:List Cl)(x:D×Nat):List Bs:=if kindOf x.1 = "copy" then (if oK aa ae x.1 x.2 (fg 2 x.1).toNat=true then [(none,fg 2 x.1)]else [])else C6 (aq aa ae) cs x.1 x.2
section
variable {aa:LD}(g:∀r∈aa,cy r) (hl:aa.length<=30) (ae:Int) (hn:((bX (aq aa ae)).map (a7 0)).Nodup)
include g hl hn
theorem LZ (cs:List Cl)(O:cs.length<=60){T:Nat}{r:D}(M:aa[T]? = some r)(c:kindOf r∈cb)(hk:aJ r<=ae):fX [.tup aa,.int ae,.lst (cs.map b7),.int T]=lT ((qD aa ae cs (r,T)).map (LY (Pj r))):=by
 have U:=g r (vL M);unfold qD Pj;by_cases G:kindOf r = "copy"
 .rw[if_pos G,if_pos G];obtain⟨n,a,e2⟩:=FZ g _ M G;rw[a];refine au rfl (a9 (bJ (p:=true) (dP (aI _ rfl ((Bg M U _).trans (by simp_all))))) (bD (cr   (Ev M U rfl rfl) (zh G)) (aw (aI _ rfl e2))))
 .rw[if_neg G,if_neg G];have b:kindOf r∈fD:=by
   simp_all[cb,fD]
  exact Bd g hl _ hn cs O M b hk
end
theorem Pk (e:f (jV ρ)=some (d,b))(k:h (ρ.set i (some (d,false)))=r):a6 (Dj i f) h ρ=r:=by simp_all
theorem Ew (e:ρ[i]? = some (some (.dk ks vs,b))):gU i ρ=some (.rt (.dk ks vs) false):=by simp[gU,e]
noncomputable def kN (x:D×Nat):ft:=.inl (x.2:Int)
def Ga (aa:LD)(ae day:Int)(x:D×Nat):Bool:=(jb aa ae x.1 && decide (aL x.1<=day)) && (yW aa ae x.2 x.1 day).isEmpty
theorem Ma {α:Type}(l:List α)(f:α->D):decide ((((l.map f).length:Nat):Int)=0)=l.isEmpty:=by
 cases l with
 |nil=>rfl
 |cons a l=>rfl
noncomputable def nD (aa:LD)(ae day:Int)(l:KL):KL:=l.filter λx=>decide (kindOf x.1∈cb) && Ga aa ae day x
section
variable {aa:LD}(g:∀r∈aa,cy r) (hl:aa.length<=30) (ae:Int) (hn:((bX (aq aa ae)).map (a7 0)).Nodup)
include g hl hn
theorem Pl (M:(bB (aq aa ae)).length<=60){O:Nat}{r:D}(G:aa[O]? = some r)(a:kindOf r∈cb)(day:Int):oB [.tup aa,.int ae,.lst ((bB (aq aa ae)).map b7),.int O,.int day]=sO (Ga aa ae day (r,O)):=by
 have b:=g r (vL G);have d :=by
  have:∀k∈cb,decide (k = "root")=false:=Z9
  exact this _ a
 let E:DL.Env:=[sJ aa,sI ae,sL ((bB (aq aa ae)).map b7),sI O,sI day];have f:aY (fA gG (fV 0 (fV 1 (fV 3 ai)))) E=some _:=dP (aI _ rfl (tX aa (λr G=>(g r G).c.rp) M9 ae G));have h:aY (f2 Gs (fA aW (af (f2 bN (aj 0) (aj 3)) ai)) (aj 4)) E=some _:=dP (bL _ (.int day) (aI [r] (bx (bL (.tup aa) (.int O) rfl rfl (by simp[bK G])) rfl) (uw b d)) rfl rfl);have T:=cD (bJ f) λ_=>h;have e:(!jb aa ae r || decide (day<aL r)) = !(jb aa ae r && decide (aL r<=day)):=by
  rw[Bool.not_and];congr 1;rw[<-decide_not];congr 1;rw[Int.not_le]
 rw[e]at T;unfold Ga;cases U:(jb aa ae r && decide (aL r<=day)) with
 |false=>
  rw[U]at T;exact au rfl (bD T (aw rfl))
 |true=>
  rw[U]at T;refine au rfl (a9 T (aw ?_));rw[<-Ma _ λn:Nat=>.int n];exact bL _ (.int 0) (aI _ (aN (aI _ rfl (Bf g M9 ae M hn G day)) rfl) rfl) rfl N9
theorem Ja (k:(dA (aq aa ae)).length<=60)(day:Int):yH [.tup aa,.int ae,.int day]=sF (.dk ((nD aa ae day (dA (aq aa ae))).map kN) ((nD aa ae day (dA (aq aa ae))).map λx=>.lst ((qD aa ae (bB (aq aa ae)) x).map (LY (Pj x.1))))):=by
 have n:hU aa:=⟨M9,λr T=>(g r T).c⟩;obtain⟨o,M⟩:=FM (aa:=aa) n ae k;have p:eF [.tup aa,.int ae]=lT ((dA (aq aa ae)).map λx=>.int x.2):=qy n ae;generalize U:bB (aq aa ae)=cs at o M |-;have G:∀x∈dA (aq aa ae),x∈aq aa ae:=λx hx=>(vN ((bp _ _).mem_iff.mp hx)).1;have q:((dA (aq aa ae)).map (·.2)).Nodup:=pM (gt aa ae);generalize dA (aq aa ae)=O at k p G q |-;let i:D×Nat->D:=λx=>.lst ((qD aa ae cs x).map (LY (Pj x.1)));let E:KL->OB->DL.Env:=λL a=>[sJ aa,sI ae,sI day,sL (cs.map b7),some (.dk (L.map kN) (L.map i),true),a];obtain⟨ρ',e,a,rfl⟩:=fB (tg:=da 5) (g:=AI) (λj ρ=>∃a,ρ=E (nD aa ae day (O.take j)) a) (O.map λx=>.int x.2) (E [] none) ⟨none,rfl⟩ (by
  rintro j d ρ hd ⟨a,rfl⟩;rw[vA]at hd;obtain⟨x,hx,rfl⟩:=oY hd;have s:=G x (vL hx);have T:=bA s;have v:aJ x.1<=ae:=Ss (vN s).2;have w:=g x.1 (vL T);have z:O.take (j+1)=O.take j++[x]:=by rw[take_add_one,hx];rfl
  have t:nD aa ae day (O.take (j+1))=nD aa ae day (O.take j)++if(decide (kindOf x.1∈cb) && Ga aa ae day x)=true then [x]else []:=by
   simp_all[nD,List.filter_cons]
  have u:x.2∉(nD aa ae day (O.take j)).map (·.2):=by
   have h2:((O.take (j+1)).map (·.2)).Nodup:=List.Nodup.sublist (List.Sublist.map _ (take_sublist _ _)) q;rw[z,uW,nodup_append]at h2;intro hm;obtain⟨y,hy,l⟩:=vO hm;exact h2.2.2 _ (uS ⟨y,(vN hy).1,rfl⟩) _ N9 l
  have m:(nD aa ae day (O.take j)).length<=60:=vR (vM _ _) (vR (List.length_take_le' _ _) k);generalize nD aa ae day (O.take j)=L at t u m;let F:DL.Env:=E L (sI x.2);have A:aY (fA eG (fV 0 (fV 1 (fV 5 ai)))) F=some (decide (kindOf x.1∈cb)):=dP (aI [.tup aa,.int ae,.int x.2] rfl ((Bg T w ae).trans (by simp_all)));have B:=eP A λh=>dP (f:=fA oB (fV 0 (fV 1 (fV 3 (fV 5 (fV 2 ai)))))) (aI _ rfl (by rw[<-U];exact Pl g hl ae hn (by rw[U];exact M) T (Ss h) day));refine⟨F,E _ (sI x.2),rfl,.inl (RN B (λh=>?_) λh=>?_),sI x.2,by rw[t]⟩
  .rw[if_pos h];have C:kindOf x.1∈cb:=M9
   have H:sD 4 (aj 5) (fA fX (fV 0 (fV 1 (fV 3 (fV 5 ai))))) F=some (.nx (F.set 4 (some (.dk (eY (L.map kN) (kN x)) (dr (L.map kN) (L.map i) (kN x) (i x)),true)))):=by
    have ev:fA fX (fV 0 (fV 1 (fV 3 (fV 5 ai)))) (jV F)=some (i x,true):=aI [.tup aa,.int ae,.lst (cs.map b7),.int x.2] rfl (LZ g hl ae hn cs M T C v);show((fA fX _ (jV F)).bind _)=_;rw[ev];simp only[vJ];exact if_pos (c:=(L.map kN).length<sizeLine) (bO (by rw[vI];lia))
   rw[H];have hk:kN x∉L.map kN:=λhm=>by
    obtain⟨y,hy,l⟩:=vO hm;exact u (uS ⟨y,hy,by have:=Sum.inl.inj (show(Sum.inl (y.2:Int):ft)=Sum.inl (x.2:Int)from l);lia⟩)
   unfold eY dr;rw[if_neg hk,if_neg hk];simp[F,E]
  .rw[h,if_neg V9,uQ];rfl)
 rw[vI,take_length]at e;exact au rfl (Pk (aI [.tup aa,.int ae] rfl o) (cR (ρ':=E [] none) rfl (cR (i6 (ds:=O.map λx=>.int x.2) (by show(fA eF _ _).bind _=_;rw[aI [.tup aa,.int ae] rfl p];rfl) e) (Ew (b:=true) rfl))))
end
noncomputable def nK (n:Nat):ft:=.inl (n:Int)
noncomputable def Nc:Nat->D:=λ_=>.bl true
noncomputable def oM (S:LN)(b:Bs):Bool:=b.1.isSome || S.any λn=>decide ((n:Int)=b.2)
noncomputable def jf (S:LN)(p:Nat×List Bs):LN:=if p.2.any (oM S)=true then S++[p.1]else S
noncomputable def jg (l:List (Nat×List Bs)):LN:=l.foldl jf []
theorem Bh (n:Int):∀S:LN,(cA (S.map nK) (S.map Nc) (.inl n)).isSome=S.any λm=>decide ((m:Int)=n)
 |[]=>rfl
 |m::S=>by
  rw[uY,uY,cA,any_cons];by_cases h:(m:Int)=n
  .simp_all[nK]
  .rw[if_neg (show ¬nK m=.inl n from λz=>h (Sum.inl.inj z)),So h,Bh n S];rfl
theorem Jb (hw:decide (w=("office" : Str))=false)(S:LN)(b:Bs):qY [LY w b,.dk (S.map nK) (S.map Nc)]=sO (oM S b):=by
 rcases b with⟨_|o,n⟩
 .refine au rfl (aw (sM  (b1:=false) (bL _ _ rfl rfl (by simp[of_decide_eq_false hw])) λ_=>bL _ _ rfl rfl ?_));show some (D.bl _,false)=_;rw[Bh]
 rfl
theorem any_map {α:Type}(l:List α)(f:α->Bool):Ho [.lst (l.map λx=>.bl (f x))]=sO (l.any f):=by
 simp
theorem Jc (h:m∈jf S p):m∈S\/m=p.1:=by
 grind[jf]
theorem xB:∀(l:List (Nat×List Bs))(S:LN)(m:Nat),m∈l.foldl jf S->m∈S\/m∈l.map (·.1)
 |[],_,_,h=>.inl h
 |p::l,S,m,h=>by
  rcases xB l _ m h with h|h
  .grind[Jc]
  .exact .inr (mZ _ h)
abbrev Rs:=Nat×Str×List Bs
noncomputable def Pm (p:Rs):D:=.lst (p.2.2.map (LY p.2.1))
noncomputable def Ex (p:Rs):Nat×List Bs:=(p.1,p.2.2)
theorem Jd (l:List Rs)(hl:l.length<=60)(hw:∀p∈l,decide (p.2.1 = "office")=false)(hb:∀p∈l,p.2.2.length<=100)(hn:(l.map (·.1)).Nodup):yI [.dk (l.map λp=>nK p.1) (l.map Pm)]=sF (.dk ((jg (l.map Ex)).map nK) ((jg (l.map Ex)).map Nc)):=by
 let E:LN->OB->OB->DL.Env:=λS G M=>[sF (.dk (l.map λp=>nK p.1) (l.map Pm)),some (.dk (S.map nK) (S.map Nc),true),G,M];have Kj:ng (l.map λp=>nK p.1) (l.map Pm)=l.map λp=>.tup [.int (p.1:Int),Pm p]:=by
  unfold ng;rw[zip_map',uP];rfl
 obtain⟨ρ',e,G,M,rfl⟩:=fB (tg:=wu [2,3]) (g:=AJ) (λj ρ=>∃G M,ρ=E (jg ((l.take j).map Ex)) G M) (l.map λp=>.tup [.int (p.1:Int),Pm p]) (E [] none none) ⟨none,none,rfl⟩ (by
  rintro j d ρ hd ⟨G,M,rfl⟩;rw[vA]at hd;obtain⟨p,hp,rfl⟩:=oY hd;have O:=vL hp;have c:l.take (j+1)=l.take j++[p]:=by rw[take_add_one,hp];rfl
  have es:jg ((l.take (j+1)).map Ex)=jf (jg ((l.take j).map Ex)) (Ex p):=by
   simp_all[jg]
  have T:p.1∉jg ((l.take j).map Ex):=λhm=>by
   have h2:((l.take (j+1)).map (·.1)).Nodup:=List.Nodup.sublist (List.Sublist.map _ (take_sublist _ _)) hn;rw[c,uW,nodup_append]at h2;rcases xB _ _ _ hm with h|h
   .cases h
   .rw[uP]at h;exact h2.2.2 _ h _ N9 rfl
  have f:(jg ((l.take j).map Ex)).length<=60:=by
   have:∀(q:List (Nat×List Bs))(S:LN),(q.foldl jf S).length<=S.length+q.length:=λq=>by
    induction q with
    |nil=>intro S;exact vT _
    |cons a q ih=>
     intro S;refine vR (ih _) ?_;unfold jf;split
     .rw[uZ,vE,length_nil,vE];lia
     .rw[vE];lia
   have h3:=this ((l.take j).map Ex) [];rw[vI,length_take,length_nil]at h3;exact vR h3 M9
  generalize jg ((l.take j).map Ex)=S at es T f;let F:DL.Env:=E S (sI (p.1:Int)) (some (Pm p,false));have hc:=iQ (fi:=bT (aj 3)) (nT:=1) (cap:=[1]) (tg:=da 0) (fe:=fA qY (fV 0 (fV 1 ai))) (ρ:=F) p.2.2 (LY p.2.1) (λb=>.bl (oM S b)) rfl (by have:=hb p O;lia) λb _=>⟨[some (LY p.2.1 b,false),sF (.dk (S.map nK) (S.map Nc))],rfl,false,aI [LY p.2.1 b,.dk (S.map nK) (S.map Nc)] rfl (Jb (hw p O) S b)⟩;have i:aY (fA Ho (af _ ai)) F=some (p.2.2.any (oM S)):=dP (aI [.lst (p.2.2.map λb=>.bl (oM S b))] (aN hc rfl) (any_map _ _));refine⟨F,E (jf S (Ex p)) (sI (p.1:Int)) (some (Pm p,false)),rfl,.inl (RN i (λh=>?_) λh=>?_),_,_,by rw[es]⟩
  .have hk:nK p.1∉S.map nK:=λhm=>by
    obtain⟨y,hy,k⟩:=vO hm;have:=Sum.inl.inj (show(Sum.inl (y:Int):ft)=Sum.inl (p.1:Int)from k);exact T (by rw[show p.1=y by lia];exact hy)
   have U:Az 1 (aj 2) (fC (.bl true)) F=some (.nx (F.set 1 (some (.dk (eY (S.map nK) (nK p.1)) (dr (S.map nK) (S.map Nc) (nK p.1) (.bl true)),true)))):=if_pos  ⟨rfl,bO (by rw[vI];lia)⟩;rw[U];unfold eY dr jf;rw[if_neg hk,if_neg hk,if_pos (show(Ex p).2.any (oM S)=true from h)];simp[F,E,Ex,Nc]
  .unfold jf;rw[if_neg (show ¬(Ex p).2.any (oM S)=true by show ¬p.2.2.any (oM S)=true;rw[h];decide)];rfl)
 rw[vI,take_length]at e;exact au rfl (cR (ρ':=E [] none none) rfl (cR (i6  (by show some (ng _ _)=_;rw[Kj]) e) (Ew (b:=true) rfl)))
theorem xC:∀S:LN,wQ (S.map nK)=some (S.map λ(n:Nat)=>(n:Int))
 |[]=>rfl
 |n::S=>by
  show(wQ _).map _=_;rw[xC S];rfl
theorem Bi {α G:Type}(g:α->G)(f:G->LI)(x:α):∀l:List α,p0 f (g x) (l.map g)=(p0 (λa=>f (g a)) x l).map g
 |[]=>rfl
 |y::r=>by
  rw[uY,p0,p0];split
  .rw[uY,Bi g f x r]
  .rfl
theorem iI {α G:Type}(g:α->G)(f:G->LI):∀l:List α,dR f (l.map g)=(dR (λa=>f (g a)) l).map g
 |[]=>rfl
 |x::l=>by
  show p0 f _ (dR f _)=(p0 _ x (dR _ l)).map g;rw[iI g f l,Bi]
theorem Bj (n:Int)(S:LN):Kd (.int n) (S.map λ(m:Nat)=>D.int (m:Int))=S.any λm=>decide ((m:Int)=n):=by
 unfold Kd;induction S with
 |nil=>rfl
 |cons m S ih=>
  simp_all
def oN (aa:LD)(ae:Int)(x:D×Nat):List Bs:=qD aa ae (bB (aq aa ae)) x
def gM (aa:LD)(ae day:Int):LN:=jg ((nD aa ae day (dA (aq aa ae))).map λx=>(x.2,oN aa ae x))
def Je (S:LN):LD:=(qc (S.map λ(n:Nat)=>(n:Int))).map .int
theorem Pn (r:D):decide (Pj r = "office")=false:=by
 unfold Pj;split
 .decide +kernel
 rfl
theorem Gb (L:KL)(G:L.length<=60):fH [.lst (L.map λx=>.tup [.int (aL x.1),.int x.2])]=lT ((dR (λx=>cC (kA x)) L).map λx=>.tup [.int (aL x.1),.int x.2]):=by
 cases L with
 |nil=>rfl
 |cons v L=>
  have h1:ga ((v::L).map λx=>D.tup [.int (aL x.1),.int x.2])=none:=rfl;have h2:kT ((v::L).map λx=>D.tup [.int (aL x.1),.int x.2])=none:=rfl;have h3:ee ((v::L).map λx=>D.tup [.int (aL x.1),.int x.2])=some _:=gf _ λx _=>rfl;unfold fH;simp only[h1,h2,h3];rw[if_pos]
  .rw[iI];rfl
  .refine⟨by rw[vI];lia,oE _,?_⟩;unfold c9;rw[Bool.or_eq_true];left;rw[all_eq_true];intro x hx;obtain⟨a,_,rfl⟩:=vO hx;rfl
section
variable {aa:LD}(g:∀r∈aa,cy r) (hl:aa.length<=30) (ae:Int) (hn:((bX (aq aa ae)).map (a7 0)).Nodup) (ho:(dA (aq aa ae)).length<=60)
include hl
theorem Jf (x:D×Nat):(oN aa ae x).length<=60:=by
 unfold oN qD;split
 .split
  .exact(by decide:1<=60)
  .exact uN _
 .unfold C6;rw[(bp _ _).length_eq];exact Eu hl _ _ _ _
theorem pP (day:Int):(gM aa ae day).length<=60:=by
 have:∀(q:List _)(S:List _),(q.foldl jf S).length<=S.length+q.length:=λq=>by
  induction q with
  |nil=>intro S;exact vT _
  |cons a q ih=>
   intro S;refine vR (ih _) ?_;unfold jf;split
   .rw[uZ,vE,length_nil,vE];lia
   .rw[vE];lia
 have h3:=this ((nD aa ae day (dA (aq aa ae))).map λx=>(x.2,oN aa ae x)) [];have h4:(dA (aq aa ae)).length<=30:=by
  unfold dA;rw[(bp _ _).length_eq];exact vR (vM _ _) (vR (cM _ _) hl)
 have h5:(nD aa ae day _).length<=30:=vR (vM _ _) h4;rw[vI,length_nil]at h3;exact vR h3 M9
include g hn ho
theorem Bk (day:Int):iZ [.tup aa,.int ae,.int day]=lT (Je (gM aa ae day)):=by
 have G:=Ja g hl ae hn ho day;have h4:(nD aa ae day _).length<=60:=vR (vM _ _) ho;have es:=Jd ((nD aa ae day _).map λx=>(x.2,Pj x.1,oN aa ae x)) (by rw[vI];exact h4)
  (λp hp=>by obtain⟨x,_,rfl⟩:=vO hp;exact Pn _) (λp hp=>by obtain⟨x,_,rfl⟩:=vO hp;exact vR (Jf hl ae x) V9)
  (by rw[uP];exact List.Nodup.sublist (List.Sublist.map _ filter_sublist) (pM (gt aa ae)))
 rw[uP,uP,uP]at es;refine au rfl (aw (aI [_] (aN (aI [_] (aN (aI _ rfl G) rfl) es) rfl) ?_));show(wQ ((gM aa ae day).map nK)).bind _=_;rw[xC,vJ,if_pos (by grind[pP])];rfl
end
theorem yX (n:Nat)(S:LN):(S.any λm=>decide ((m:Int)=(n:Int)))=decide (n∈S):=by
 grind
theorem Jg (h:br 40 d=true):wt d d=sO false:=by
 unfold wt;rw[if_pos ⟨h,h⟩,tQ 40 _ h];rfl
theorem Jh (aa:LD)(ae:Int):bX (aq aa ae)=aa.filter λv=>aZ v && decide (aJ v<=ae):=by
 unfold bX aq;rw[List.filter_filter];have:∀(l:List (D×Nat))(q:D->Bool),(l.filter λx=>q x.1).map _=(l.map _).filter q:=λl q=>by rw[filter_map];rfl
 refine(this _ λv=>aZ v && decide (aJ v<=ae)).trans ?_;rw[List.zipIdx_map_fst]
theorem Ji (aa:LD)(ae:Int):((bX (aq aa ae)).map (a7 0)).Sublist (ju aa):=by
 rw[Jh];refine List.Sublist.map _ ?_;have:(aa.filter λv=>aZ v && decide (aJ v<=ae))=(aa.filter aZ).filter λv=>decide (aJ v<=ae):=by simp_all[Bool.and_comm]
 rw[this];exact filter_sublist
def qE (S:LN):LN:=dR (λn:Nat=>[(n:Int)]) S
theorem Mb (S:LN):Je S=(qE S).map λ(n:Nat)=>.int (n:Int):=by
 simp_all[Je,qc,qE,iI]
theorem xD {m:Nat}{S:LN}:m∈qE S↔m∈S:=(bp _ _).mem_iff
def PW (q:D)(x:Int×OI)(w:D):Prop:=∃a k d b,∃m:Nat,∃G,(k=("paper" : Str)\/k = "like")/\q=row a k (.int d::.str b::.int m::jR x::w::G)/\(w=.non\/∃s,w=.str s)
def CA (r:D):Prop:=kindOf r=("paper" : Str)\/kindOf r = "like"->∃x w,PW r x w
inductive Pb (aa:List D):Nat->Nat->Nat->Prop
 |here (n:Nat) (r:D) (x:Int×Option Int) (w:D) (h:aa[n]? = some r) (p:PW r x w):Pb aa 0 n n
 |copy (k n m e:Nat) (a d:Int) (b:Str) (h:aa[n]? = some (row a ("copy" : Str) [.int d,.str b,.int m])) (p:Pb aa k m e):Pb aa (k+1) n e
def pend (aa:LD):Nat->Nat->Nat
 |0,n=>n
 |k+1,n=>match aa[n]? with
  |some r=>if kindOf r = "copy" then pend aa k (fg 2 r).toNat else n
  |none=>n
theorem PW.nocopy (p:PW r x w):¬kindOf r = "copy":=by
 obtain⟨a,k,d,b,m,G,hk,rfl,_⟩:=p;have:∀k:Str,k = "paper" \/ k = "like"->¬k = "copy":=by rintro k (rfl|rfl)<;>decide +kernel
 exact this k hk
theorem Pb.to (p:Pb aa k n e):∃r x w,aa[e]? = some r/\PW r x w:=by
 induction p with
 |here n r x w h p=>exact⟨r,x,w,h,p⟩
 |copy k n m e a d b h p ih=>exact ih
theorem Pb.pend (p:Pb aa k n e):∀f,k<=f->pend aa f n=e:=by
 induction p with
 |here n r x w h p=>
  intro f _;cases f with
  |zero=>rfl
  |succ f=>unfold Lw.pend;rw[h];exact if_neg p.nocopy
 |copy k n m e a d b h p ih=>
  intro f hf;obtain⟨f,rfl⟩:∃j,f=j+1:=⟨f - 1,M9⟩;unfold Lw.pend;rw[h];exact(if_pos rfl).trans (ih f M9)
def SI (aa:LD)(ae:Int)(S:LN):Prop:=∀n∈S,∃r,aa[n]? = some r/\aJ r<=ae/\kindOf r∈cb/\(kindOf r∈cN->∃k e,k<=S.length/\Pb aa k n e)
section
variable {aa:LD}(g:∀r∈aa,cy r) (gw:∀r∈aa,CA r) (ae:Int)
include g gw
theorem Mc {S:LN}(s:SI aa ae S){x:D×Nat}(hx:aa[x.2]? = some x.1)(hk:aJ x.1<=ae)(hb:kindOf x.1∈cb):SI aa ae (jf S (x.2,oN aa ae x)):=by
 unfold jf;split
 .rename_i hs;intro n hn;rcases mem_append.mp hn with hn|hn
  .obtain⟨r,h1,h2,h3,h4⟩:=s n hn;exact⟨r,h1,h2,h3,λhp=>by obtain⟨k,e,h5,G⟩:=h4 hp;exact⟨k,e,by rw[uZ];lia,G⟩⟩
  .cases uT hn
   refine⟨x.1,hx,hk,hb,λhp=>?_⟩;by_cases O:kindOf x.1 = "copy"
   .obtain⟨a,d,b,m,er⟩:=uz (g _ (vL hx)) O;have hm:fg 2 x.1=m:=by rw[er];rfl
    unfold oN qD at hs;rw[if_pos O,hm,Int.toNat_natCast]at hs;cases hv:oK _ _ _ _ m with
    |false=>rw[hv]at hs;cases hs
    |true=>
     rw[hv]at hs;have M :=by
      have T:(S.any λn=>decide ((n:Int)=(m:Int)))=true:=by simpa [oM]using hs
      rw[yX]at T;exact Ss T
     obtain⟨q,h1,h2,h3,h4⟩:=s m M;unfold oK at hv;obtain⟨k,e,h5,G⟩:=h4 (by
      simp_all)
     exact⟨k+1,e,by simp_all,.copy k _ m e a d b (by rw[hx,<-er]) G⟩
   .obtain⟨y,w,p⟩:=gw _ (vL hx) (by
     simp_all[cN])
    exact⟨0,x.2,uN _,.here _ _ _ _ hx p⟩
 .exact s
theorem Ey:∀(l:KL)(S:LN),(∀x∈l,aa[x.2]? = some x.1/\aJ x.1<=ae/\kindOf x.1∈cb)->SI aa ae S->SI aa ae ((l.map λx=>(x.2,oN aa ae x)).foldl jf S)
 |[],_,_,s=>s
 |x::l,S,h,s=>by
  obtain⟨h1,h2,h3⟩:=h x (mX ..);exact Ey l _ (λy hy=>h y (mZ _ hy)) (Mc g gw _ s h1 h2 h3)
theorem Bl (day:Int):SI aa ae (gM aa ae day):=by
 refine Ey g gw _ _ [] (λx hx=>?_) (λn hn=>nomatch hn);obtain⟨h1,h2⟩:=vN hx;have h3 :=(vN ((bp _ _).mem_iff.mp h1)).1;exact⟨bA h3,Ss (vN h3).2,Ss (vC _ _ ▸ h2).1⟩
end
theorem Pb.at_ (p:Pb aa k n e):∃r,aa[n]? = some r:=by
 cases p with
 |here n r x w h p=>exact⟨_,h⟩
 |copy k n m e a d b h p=>exact⟨_,h⟩
theorem PW.word (p:PW r x w):aG [r]=sS (kindOf r):=by
 obtain⟨a,k,d,b,m,G,hk,rfl,_⟩:=p;exact dM _ _ _
theorem PW.str (p:PW r x w):av [r,.str "stretch"]=some (jR x,false):=by
 obtain⟨a,k,d,b,m,G,hk,rfl,_⟩:=p;exact bF (i:=3) (by rcases hk with rfl|rfl<;>exact cL) rfl
theorem PW.box (p:PW r x w):GW r=false:=by
 obtain⟨a,k,d,b,m,G,hk,rfl,_⟩:=p;rfl
theorem PW.st (p:PW r x w):fE r=x:=by
 obtain⟨a,k,d,b,m,G,hk,rfl,_⟩:=p;unfold fE;have:∀k:Str,k = "paper" \/ k = "like"->¬k = "leave":=by rintro k (rfl|rfl)<;>decide +kernel
 rw[lR,if_neg (this k hk)];exact qZ rfl
noncomputable abbrev bE (aa:LD)(n0:Nat)(r:D):DL.Env:=[sJ aa,sI n0,some (r,false)]
section
variable {aa:LD}(g:∀r∈aa,cy r)
include g
theorem Po {k n e:Nat}(p:Pb aa k n e)(n0:Nat):∀(r:D)(fuel:Nat),aa[n]? = some r->k<fuel->∃q,aa[e]? = some q/\iJ (aY (f2 dz (fA aG (fV 2 ai)) (fS "copy"))) ig fuel (bE aa n0 r)=some (.nx (bE aa n0 q)):=by
 induction p with
 |here n q x w h p=>
  intro r fuel G hf;obtain⟨fuel,rfl⟩:∃j,fuel=j+1:=⟨fuel - 1,M9⟩;cases h.symm.trans G
  refine⟨q,h,?_⟩;rw[iJ,cr    (aI [q] rfl p.word) (So p.nocopy)]
 |copy k n m e a d b h p ih=>
  intro r fuel G hf;obtain⟨fuel,rfl⟩:∃j,fuel=j+1:=⟨fuel - 1,M9⟩;cases h.symm.trans G
  obtain⟨M,h2⟩:=p.at_;obtain⟨q,h3,h4⟩:=ih M fuel h2 M9;refine⟨q,h3,?_⟩;have O:f2 bN (aj 0) (fA av (fV 2 (af (fS "of") ai))) (bE aa n0 (row a ("copy" : Str) [.int d,.str b,.int m]))=some (M,false):=bL _ (.int m) rfl (aI _ rfl (bF (i:=2) cL rfl)) (by simp[bK h2]);have T:ig _=some _:=sK O (g _ (vL h2)).flat;rw[iJ,cr    (aI _ rfl (dM _ _ _)) (zh rfl)];rw[T];exact h4
theorem Gc {k n e:Nat}(p:Pb aa k n e)(hk:k<=60):∃q x w,aa[e]? = some q/\PW q x w/\eI [.tup aa,.int n]=some (q,false):=by
 obtain⟨r,G⟩:=p.at_;obtain⟨q,hq,O⟩:=Po g p n r 1000 G M9;obtain⟨T,x,w,h,M⟩:=p.to;cases h.symm.trans hq
 exact⟨q,x,w,hq,M,au rfl (gR r (bL _ _ rfl rfl (by simp[bK G])) (g _ (vL G)).flat (cR O (jm rfl M.box)))⟩
end
def Kg (aa:LD)(n:Nat):Bool:=match aa[n]? with
 |some r=>decide (kindOf r∈cN)
 |none=>false
def Pp (aa:LD)(n:Nat):Int×OI:=fE (aa.getD (pend aa 60 n) .non)
def oP (aa:LD)(ae day:Int):LN:=((qE (gM aa ae day)).filter (Kg aa)).filter λn=>x0 day (Pp aa n)
theorem CB (n:Nat)(S:LN):gn (.int n) (.lst (S.map λ(m:Nat)=>.int (m:Int)))=sO (!decide (n∈S)):=by
 have G:(S.map λ(n:Nat)=>D.int (n:Int)).all jk=true:=by
  simp
 simp only[gn,iu,vJ];rw[if_pos ⟨rfl,G⟩,Bj,yX]
section
variable {aa:LD}(g:∀r∈aa,cy r) (gw:∀r∈aa,CA r) (hl:aa.length<=30) (ae:Int) (hn:((bX (aq aa ae)).map (a7 0)).Nodup) (ho:(dA (aq aa ae)).length<=60)
include g gw hl
theorem Jj {day:Int}{n:Nat}(h:n∈gM aa ae day)(hp:Kg aa n=true):∃q x w e k,k<=60/\Pb aa k n e/\aa[e]? = some q/\PW q x w/\eI [.tup aa,.int n]=some (q,false)/\Pp aa n=x:=by
 obtain⟨r,h1,h2,h3,h4⟩:=Bl g gw _ _ n h;unfold Kg at hp;rw[h1]at hp;obtain⟨k,e,h5,G⟩:=h4 (Ss hp);have M:=pP hl ae day;obtain⟨q,x,w,hq,O,T⟩:=Gc g G (vR h5 M);refine⟨q,x,w,e,k,vR h5 M,G,hq,O,T,?_⟩;unfold Pp;rw[G.pend 60 (vR h5 M),vF,hq];exact O.st
include hn ho
theorem CC (day:Int):pD [.tup aa,.int ae,.int day]=lT ((oP aa ae day).map λ(n:Nat)=>.int (n:Int)):=by
  have G:=pP hl ae day;have hs:(qE (gM aa ae day)).length<=60:=by unfold qE;rw[(bp _ _).length_eq];exact G
  have h1:=gd (fi:=bT (fA iZ (fV 0 (fV 1 (fV 2 ai))))) (nT:=1) (cap:=[0,1]) (tg:=da 0) (c:=aY (fA dI (fV 1 (fV 2 (fV 0 ai))))) (fe:=aj 0)
    (ρ:=[sJ aa,sI ae,sI day,none]) (qE (gM aa ae day)) (λ(n:Nat)=>.int (n:Int)) (Kg aa) (λ(n:Nat)=>.int (n:Int))
    (by show(fA iZ _ _).bind _=_;rw[aI [.tup aa,.int ae,.int day] rfl (Bk g hl ae hn ho day),Mb];rfl) M9 λx hx=>by
      obtain⟨r,h1,h2,h3,h4⟩:=Bl g gw ae day x (xD.mp hx);have:=uy h1 (g _ (vL h1)) ae;rw[zh h2,Bool.true_and]at this;have e:Kg aa x=decide (kindOf r∈cN):=by unfold Kg;rw[h1]
      rw[<-e]at this;exact⟨_,rfl,dP (aI [.tup aa,.int ae,.int x] rfl this),λ_=>⟨false,rfl⟩⟩
  have M:b8 (((qE (gM aa ae day)).filter (Kg aa)).map λ(n:Nat)=>D.int (n:Int))=true:=bH λd hd=>by obtain⟨x,_,rfl⟩:=vO hd;rfl
  refine au rfl (bV h1 M (aw ?_));refine gd (fi:=bT (aj 3)) (nT:=1) (cap:=[2,0]) (tg:=da 0)  (fe:=aj 0)
     _ (λ(n:Nat)=>.int (n:Int)) (λn=>x0 day (Pp aa n)) (λ(n:Nat)=>.int (n:Int)) N9 (vR (vM _ _) M9) λn hn=>?_
  obtain⟨h2,h3⟩:=vN hn;obtain⟨q,x,w,e,k,hk,U,hq,O,T,e2⟩:=Jj g gw hl ae (xD.mp h2) h3;refine⟨[sI n,sI day,sJ aa],rfl,dP (aI [.int day,jR x] (bx rfl (bx (aI [q,.str "stretch"] (bx (aI [.tup aa,.int n] rfl T) rfl) O.str) rfl)) ?_),λ_=>⟨false,rfl⟩⟩;rw[e2];exact yO _ _ _
end
noncomputable def zz:D->D
 |.tup [_,.tup (.str k::l)]=>.tup [.non,.tup (.str k::l)]
 |r=>r
theorem uA {G:Type}(f:D->G)(h:∀a k l,f (.tup [.non,.tup (.str k::l)])=f (.tup [a,.tup (.str k::l)]))(r:D):f (zz r)=f r:=by
 unfold zz;split
 .exact h _ _ _
 .rfl
@[simp] theorem pQ (r:D):kindOf (zz r)=kindOf r:=uA _ (λ_ _ _=>rfl) r
@[simp] theorem Nd (r:D):aL (zz r)=aL r:=uA _ (λ_ _ l=>by cases l with|nil=>rfl|cons d l=>cases d<;>rfl) r
@[simp] theorem XQ (r:D):dN (zz r)=dN r:=uA _ (λ_ _ l=>by cases l with|nil=>rfl|cons d l=>cases l with|nil=>rfl|cons e l=>cases e<;>rfl) r
@[simp] theorem Jk (j:Nat)(r:D):a7 j (zz r)=a7 j r:=uA _ (λ_ _ _=>rfl) r
@[simp] theorem Jl (j:Nat)(r:D):fg j (zz r)=fg j r:=uA _ (λ_ _ _=>rfl) r
@[simp] theorem XR (j:Nat)(r:D):FP j (zz r)=FP j r:=uA _ (λ_ _ _=>rfl) r
@[simp] theorem U8 (ws:LS)(p:Str)(day:Int)(r:D):told ws p day (zz r)=told ws p day r:=uA _ (λ_ _ _=>rfl) r
@[simp] theorem Pq (r:D):aZ (zz r)=aZ r:=by simp[aZ]
@[simp] theorem XS (r:D):lS (zz r)=lS r:=by simp[lS]
@[simp] theorem z_m (r:D):lg (zz r)=lg r:=by simp[lg]
@[simp] theorem Wh (r:D):jS (zz r)=jS r:=by simp[jS]
@[simp] theorem RV (r:D):fE (zz r)=fE r:=by simp[fE]
@[simp] theorem Tt (r v:D):lU (zz r) (zz v)=lU r v:=by simp[lU]
def nz (x:D×Nat):D×Nat:=(zz x.1,x.2)
@[simp] theorem Jm (a b:D×Nat):ge (nz a) (nz b)=ge a b:=by simp[ge,nz]
@[simp] theorem RW (x:D×Nat):kA (nz x)=kA x:=by simp[kA,nz]
theorem eM (K:KL)(p q:D×Nat->Bool)(h:∀x,p (nz x)=q x):(K.map nz).filter p=(K.filter q).map nz:=by
 grind[filter_congr]
theorem Ez (K:KL)(p:Str)(day:Int):lP (K.map nz) p day=lP K p day:=by
 unfold lP;rw[eM K _ (λx=>told fm p day x.1) λx=>by simp[nz]];simp
theorem CD:∀(l:KL)(b:D×Nat),fY (nz b) (l.map nz)=nz (fY b l)
 |[],_=>rfl
 |x::l,b=>by
  rw[uY,fY,fY,Jm,CD l x,CD l b];split<;>rfl
theorem Pr (K:KL)(p:Str)(day:Int):Ej (K.map nz) p day=Ej K p day:=by
 unfold Ej;rw[eM K _ (λx=>told oF p day x.1) λx=>by simp[nz]];cases K.filter _ with
 |nil=>rfl
 |cons b l=>
  show decide _=decide _;rw[CD];exact congrArg (λk=>decide (k=_)) (pQ _)
theorem yY (K:KL)(r:D):je (K.map nz) (zz r)=je K r:=by simp[je,Ez,Pr]
theorem Jn:∀(l:KL)(b:D×Nat),ny (nz b) (l.map nz)=nz (ny b l)
 |[],_=>rfl
 |x::l,b=>by
  rw[uY,ny,ny,RW,RW,Jn l x,Jn l b];split<;>rfl
theorem Md (K:KL)(p:Str)(day:Int)(i:Nat):gu (K.map nz) p day i=gu K p day i:=by
 unfold gu;rw[eM K _ (λx=>told fm p day x.1) λx=>by simp[nz]];cases K.filter _ with
 |nil=>rfl
 |cons b l=>
  grind[nz,Jn]
theorem Jo {κ:Type}[DecidableEq κ](k:κ):∀(ks:List κ)(vs:LD),cA ks (vs.map zz) k=(cA ks vs k).map zz
 |[],_=>by simp[cA]
 |_::_,[]=>by simp[cA]
 |k'::ks,v::vs=>by
  rw[uY,cA,cA,Jo k ks vs];split<;>rfl
theorem Ps (ks:LK)(k:ft)(v:D)(vs:LD):dr ks (vs.map zz) k (zz v)=(dr ks vs k v).map zz:=by
 unfold dr;split
 .rw[List.map_zipWith];grind
 .simp
theorem Jp:∀(l:List (ft×D))(a:LK×LD),(l.map λp=>(p.1,zz p.2)).foldl nc (a.1,a.2.map zz)=((l.foldl nc a).1,(l.foldl nc a).2.map zz)
 |[],_=>rfl
 |p::l,a=>by
  rw[uY,foldl_cons,foldl_cons,<-Jp l _];simp_all[nc,Ps]
theorem Pt (K:KL)(o:Str):qB (K.map nz) o=(qB K o).map zz:=by
 have e:kY (K.map nz)=(kY K).map λp=>(p.1,zz p.2):=by
  unfold kY;rw[eM K _ (λx=>aZ x.1) λx=>by simp[nz],uP];simp_all[nz]
 unfold qB ci;rw[e,show(([],[]):List _×LD)=([],([]:LD).map zz)from rfl,Jp _ ([],[])];exact Jo _ _ _
theorem Jq (K:KL)(G:List Cl)(x:D×Nat):c6 (K.map nz) G (nz x)=c6 K G x:=by
 unfold c6;have M:AS (zz x.1)=AS x.1:=by simp[AS]
 simp  [nz,pQ,Jk,Nd,Md,M];rw[Pt];cases qB K _ with
 |none=>rfl
 |some v=>simp[yY]
theorem Pu (K:KL)(st:OZ)(x:D×Nat):eA (K.map nz) st (nz x)=eA K st x:=by
 unfold eA;rw[Jq];have:∀p day n,qO _ st.1 st.2.1 _ p _ n=qO K _ _ _ p _ n:=λp day n=>by
  unfold qO;rw[show du (K.map nz) _ st.2.2 p day n=du K st.2.1 st.2.2 p day n from funext λo=>by unfold du;simp  [Ez]]
 simp  [nz,pQ,Jk,Nd,Jl,this]
theorem Nf (K:KL):dA (K.map nz)=(dA K).map nz:=by
 unfold dA;rw[eM K _ (λx=>!aZ x.1) λx=>by simp[nz],iI];simp
theorem Bm (K:KL):bB (K.map nz)=bB K:=by
 simp_all[bB,mL,Nf,List.foldl_map,Pu]
theorem E1 (K:KL):bX (K.map nz)=(bX K).map zz:=by
 unfold bX;rw[eM K _ (λx=>aZ x.1) λx=>by simp[nz],uP,uP];rfl
theorem RX (K:KL)(cs:List Cl)(r:D)(G:Nat):C6 (K.map nz) cs (zz r) G=C6 K cs r G:=by
 have e:vx (K.map nz) cs (zz r) G=vx K cs r G:=by
  unfold vx;have h1:vw (K.map nz) (dN (zz r))=(vw K (dN r)).map nz:=by
   unfold vw;rw[eM K _ (λx=>lS x.1) λx=>by simp[nz],eM _ _ (λx=>decide (a7 2 x.1=dN r)) λx=>by simp[nz]]
  have h2:∀v,pO cs (zz r) (zz v)=pO cs r v:=λv=>by simp[pO]
  have h3:∀v,Qq cs (zz r) (zz v)=Qq cs r v:=λv=>by simp[Qq,FQ]
  have h4:∀x,C5 _ G _=C5 r G x:=λx=>by
   have:=Jm x (r,G);unfold C5;rw[show(zz r,G)=nz (r,G)from rfl,this];simp[nz]
  rw[h1,E1,filter_map,uP,eM _ _ _ h4,uP];congr 1;rw[show pO cs _ ∘ zz=pO cs r from funext h2,show Qq cs _ ∘ zz=Qq cs r from funext h3]
 unfold C6;rw[e]
theorem RY (K:KL)(c r:D):C7 (K.map nz) (zz c) (zz r)=C7 K c r:=by
 simp_all[C7,Bm,E1,Function.comp_def]
def Gd (K:KL)(G:Nat)(r:D)(day:Int)(c:D):Bool:=decide (kindOf c = "call") && (decide (fg 2 c=G) && (decide (aL c<=day) && (je K c && C7 K c r)))
def CF (K:KL)(day:Int)(x:D×Nat):Bool:=(je K x.1 && decide (aL x.1<=day)) && (K.filter λy=>Gd K x.2 x.1 day y.1).isEmpty
noncomputable def xE (K:KL)(x:D×Nat)(n:Nat):Bool:=K.any λy=>decide (y.2=n) && (decide (kindOf y.1∈cN) && ge y x)
def Jr (K:KL)(x:D×Nat):List Bs:=if kindOf x.1 = "copy" then (if xE K x (fg 2 x.1).toNat=true then [(none,fg 2 x.1)]else [])else C6 K (bB K) x.1 x.2
def Js (K:KL)(day:Int):LN:=jg (((dA K).filter λx=>decide (kindOf x.1∈cb) && CF K day x).map λx=>(x.2,Jr K x))
theorem Ng (K:KL)(day:Int):Js (K.map nz) day=Js K day:=by
 have h1:∀x,CF _ day (nz x)=CF K day x:=λx=>by
  unfold CF;have:∀y,Gd (K.map nz) (nz x).2 (nz x).1 day (nz y).1=Gd K x.2 x.1 day y.1:=λy=>by
   simp_all[Gd,nz,yY,RY]
  rw[eM K _ _ this];simp_all[nz,yY]
 have h2:∀x,Jr (K.map nz) (nz x)=Jr K x:=λx=>by
  unfold Jr;have:∀n,xE (K.map nz) (nz x) n=xE K x n:=λn=>by
   unfold xE;rw[List.any_map];simp only[Function.comp_def,Jm];simp only[nz,pQ];rfl
  simp only[this,Bm,RX,nz,pQ,Jl];simp only[nz]at this;rw[this]
 unfold Js;rw[Nf,eM _ _ (λx=>decide (kindOf x.1∈cb) && CF K day x) λx=>by rw[h1];simp[nz],uP];congr 1;exact List.map_congr_left λx _=>by simp only[Function.comp,h2];rfl
theorem xF {aa:LD}{ae:Int}{r:D}(h:aJ r<=ae):jb aa ae r=je (aq aa ae) r:=by
 unfold jb je;rw[zh h];rfl
theorem Jt (aa:LD)(ae:Int)(x:D×Nat)(n:Nat):oK aa ae x.1 x.2 n=xE (aq aa ae) x n:=by
 rw[Bool.eq_iff_iff];unfold oK xE;rw[List.any_eq_true];constructor
 .intro h;split at h
  .cases h
  .rename_i q hq;rw[vC,vC]at h;refine⟨(q,n),mem_filter.mpr ⟨mem_zipIdx_iff_getElem?.mpr hq,h.1.1⟩,?_⟩;simp_all
 .rintro⟨y,hy,h⟩;rw[vC]at h;have e:=Ss h.1;subst e;have hk:=(vN hy).2;rw[bA hy];simp_all
theorem xG (aa:LD)(ae day:Int):gM aa ae day=Js (aq aa ae) day:=by
 have G:∀x∈aq aa _,aJ _<=ae:=λx hx=>Ss (vN hx).2;have h1:∀x∈aq _ _,kindOf _∈cb->Ga _ _ _ x=CF _ _ x:=λx hx hb=>by
  unfold Ga CF yW;rw[if_pos ⟨G x hx,hb⟩,List.isEmpty_map,xF (G x hx)];rw[filter_congr λy hy=>(show FX _ _ _ _ _ _=Gd _ _ _ day y.1 by unfold FX Gd;rw[xF (G y hy)])]
 unfold gM Js nD;rw[filter_congr  λx hx=>by
  have hm :=(vN ((bp _ _).mem_iff.mp hx)).1;by_cases hb:kindOf x.1∈cb
  .rw[h1 x hm hb]
  .simp_all]
 congr 1;refine List.map_congr_left λx _=>?_;unfold oN qD Jr;rw[Jt]
theorem Ge {A B:LD}{a b:Int}(q:Nat->Bool)(hz:A.map zz=B.map zz)(ha:∀n r,A[n]? = some r->decide (aJ r<=a)=q n)(hb:∀n r,B[n]? = some r->decide (aJ r<=b)=q n)(day:Int):oP A a day=oP B b day:=by
 have hk:∀(R:LD)(k:Int),(∀n r,R[n]? = some r->decide (aJ r<=k)=q n)->(aq R k).map nz=(R.map zz).zipIdx.filter λx=>q x.2:=λR k h=>by
  unfold aq;rw[filter_congr  λx hx=>h x.2 x.1 (mem_zipIdx_iff_getElem?.mp hx),List.zipIdx_map,filter_map];rfl
 have hs:gM A a day=gM B b day:=by rw[xG,xG,<-Ng _,<-Ng (aq B b),hk A a ha,hk B b hb,hz]
 have hp:∀(R:LD) n,Kg (R.map zz) n=Kg R n:=λR n=>by
  unfold Kg;rw[vA];cases R[n]? with
  |none=>rfl
  |some r=>simp
 have hd:∀(R:LD)(f n:Nat),pend (R.map zz) f n=pend R f n:=λR f=>by
  induction f with
  |zero=>intro n;rfl
  |succ f ih=>
   intro n;unfold pend;rw[vA];cases R[n]? with
   |none=>rfl
   |some r=>simp only[Option.map_some,pQ,Jl,ih]
 have G:∀(R:LD) n,Pp (R.map zz) n=Pp R n:=λR n=>by
  unfold Pp;rw[hd,vF,vF,vA];cases R[pend R 60 n]? with
  |none=>rfl
  |some r=>exact RV r
 unfold oP;grind[filter_congr]
end Lw
namespace Lw
open PySem DL L2
theorem RZ (d:D)(r:LD):qJ (d::r) (some 1) none=r:=by
 simp_all[qJ,HT.eV]
theorem Bn (aa:LD)(n:Nat):qJ aa none (some (n:Int))=aa.take n:=by
 simp_all[qJ,HT.GA,HT.Kw]
theorem E2 {op:D->OB}{fa:FE}{ρ:DL.Env}{x:D}{b:Bool}{z:OB}(G:fa ρ=some (x,b))(e2:op x=z):f1 op fa ρ=z:=by unfold f1;rw[G];exact e2
theorem Bo (parts:LS)(ay:LD):jG (parts.map .str) ay=(parts.zip ay).map λx=>.tup [.str x.1,x.2]:=by
 induction parts generalizing ay with
 |nil=>rfl
 |cons a l ih=>
  cases ay with
  |nil=>rfl
  |cons d r=>simp_all[jG]
theorem oQ {α:Type}(l:List α):BV [.lst (l.map λ_=>.bl true)]=some (.bl true,false):=by
 simp
noncomputable def uB (c:Nat):Bool:=decide (97<=c) && decide (c<=122)
theorem Bp (c:Nat)(ρ:DL.Env)(h:ρ[0]? = some (some (.str ⟨#[c]⟩,false))):hZ qR qR (fC (.str "a")) (aj 0) (fC (.str "z")) ρ=some (.bl (uB c),false):=by
 refine jK    (b1:=false) (b2:=false) (b3:=false)  ?_ ?_ ?_ (DP _ _) λ_=>DP _ _
 .rfl
 .simp[h]
 rfl
noncomputable def pR (z:Str):Bool:=(decide (1<=z.length) && decide (z.length<=8)) && z.cps.toList.all uB
theorem Bq (z:Str):z.cps.toList.length=z.length:=by simp[Str.length]
theorem lV {z:Str}(h:pR z=true):iE [.str z]=some (.bl true,false):=by
 unfold pR at h;rw[vC,vC]at h;obtain⟨⟨h1,G⟩,ha⟩:=h;have hl:z.length<=sizeLine:=dS M9;refine au rfl (a9 (cD (p:=false) (q:=false) N9 λ_=>bJ (p:=true) (cU  ((jK  (y:=.int z.length) (z:=.int 8)  (b2:=false)  (b4:=false) (p:=true) (q:=true) rfl (by simp[hl]) rfl S9 λ_=>by simp;lia).trans rfl))) (aw (ba (ds:=[.lst (z.cps.toList.map λc=>.bl (uB c))]) ?_ ?_)))
 .have:=iQ (fi:=bT (aj 0)) (nT:=1) (cap:=[]) (tg:=da 0)  (ρ:=[some (.str z,false)]) z.cps.toList (λc=>.str ⟨#[c]⟩) _ (by simp[FD]) (by rw[Bq];lia) λc _=>
   ⟨_,rfl,false,Bp c _ (by simp[cG])⟩
  exact aN (b:=true) this rfl
 simp_all
theorem xH {d lo hi:Int}(h1:lo<=d)(h2:d<=hi):fT [.int d,.int lo,.int hi]=some (.bl true,false):=by
 refine au rfl (aw ((df (p:=true)  (b1:=false) N9 λ_=>(df    (L5 (p:=false) (b1:=false) N9) λ_=>(jK       (b4:=false) (p:=true)  rfl rfl rfl S9 λ_=>by simp;lia).trans rfl).trans rfl).trans rfl))
theorem Me {d:Int}(h1:0<=d)(h2:d<=9999):jL [.int d]=some (.bl true,false):=au rfl (aw (ba  rfl (xH h1 h2)))
theorem xI {z:Str}(h:pR z=true):ky [.str z]=some (.bl true,false):=au rfl (aw (ba  rfl (lV h)))
theorem CG {ps:LS}(h1:1<=ps.length)(G:ps.length<=8)(h:∀p∈ps,pR p=true):jo [.tup (ps.map .str)]=some (.bl true,false):=by
 refine au rfl (a9 (cD (p:=false)  N9 λ_=>bJ  (cU  ((jK  (y:=.int ps.length) (z:=.int 8)  (b2:=false)  (b4:=false) (p:=true) (q:=true) rfl N9 rfl S9 λ_=>by simp;lia).trans rfl))) (aw (ba  ?_ (oQ ps))));have:=iQ (fi:=bT (aj 0)) (nT:=1) (cap:=[]) (tg:=da 0) (fe:=fA _ (af (aj 0) ai)) (ρ:=[some (.tup (ps.map .str),false)]) ps (λp=>.str p) _ N9 M9 λp hp=>
  ⟨_,rfl,false,ba  (by simp[cG]) (xI (h p hp))⟩
 exact aN  this rfl
theorem cq {p q:Str}{v:D}{b:Bool}(h:decide (p=q)=b):aY (f2 dz (aj 0) (fC (.str q))) [some (.str p,false),some (v,false)]=some b:=by simp_all
theorem c2 {p q r:Str}{v:D}(h:(decide (p=q) || decide (p=r))=false):dC (aY (f2 dz (aj 0) (fC (.str q)))) (aY (f2 dz (aj 0) (fC (.str r)))) [some (.str p,false),some (v,false)]=some false:=(cD (cq rfl) λ_=>cq rfl).trans (by rw[h])
theorem c3 {p q r t:Str}{v:D}(h:(decide (p=q) || (decide (p=r) || decide (p=t)))=false):dC (aY (f2 dz (aj 0) (fC (.str q)))) (dC (aY (f2 dz (aj 0) (fC (.str r)))) (aY (f2 dz (aj 0) (fC (.str t))))) [some (.str p,false),some (v,false)]=some false:=(cD (cq rfl) λ_=>cD (cq rfl) λ_=>cq rfl).trans (by rw[h])
theorem XT {p q r t:Str}{v:D}(h:(decide (p=q) || (decide (p=r) || decide (p=t)))=true):dC (aY (f2 dz (aj 0) (fC (.str q)))) (dC (aY (f2 dz (aj 0) (fC (.str r)))) (aY (f2 dz (aj 0) (fC (.str t))))) [some (.str p,false),some (v,false)]=some true:=(cD (cq rfl) λ_=>cD (cq rfl) λ_=>cq rfl).trans (by rw[h])
theorem yZ {p:Str}{v:D}(h0:(decide (p=("day" : Str)) || decide (p=("since" : Str)))=false)(hp:(decide (p=("office" : Str)) || (decide (p=("by" : Str)) || decide (p=("person" : Str))))=true)(h:iE [v]=some (.bl true,false)):eQ [.str p,v]=some (.bl true,false):=au rfl (a9 (c2 h0) (bD (XT hp) (aw (ba  rfl h))))
theorem Gf {v:D}(h:jo [v]=some (.bl true,false)):eQ [.str "pieces",v]=some (.bl true,false):=au rfl (a9 (c2 Z9) (a9 (c3 Z9) (a9 (cq Z9) (a9 (cq Z9) (a9 (cq Z9) (a9 (cq Z9) (a9 (cq Z9) (a9 (cq Z9) (bD (cq Z9) (aw (ba  rfl h)))))))))))
noncomputable def j8 (z:Str):Bool:=Kd (.str z) [.str "by",.str "person",.str "whom"]
noncomputable def there:D->Bool
 |.non=>false
 |_=>true
@[simp] theorem U9:there .non=false:=rfl
@[simp] theorem UA (z:Str):there (.str z)=true:=rfl
@[simp] theorem UB (z:Int):there (.int z)=true:=rfl
@[simp] theorem UC (z:LD):there (.tup z)=true:=rfl
theorem Br (d:D)(h:EZ d=false):kg d .non=some (.bl (there d),false):=by
 cases d<;>simp[there]at h |-
noncomputable def CH (l:List (Str×D)):LD:=(l.filter λx=>j8 x.1 && there x.2).map (·.2)
structure Nm7 (zs:List Str):Prop where
 len:zs.length=7
 nd:zs.Nodup
 nm:∀z∈zs,pR z=true
noncomputable def off (zs:LS)(k:Nat):Str:=zs.getD (if k=0 then 5 else 6) ""
theorem Ju {zs:LS}(g:Nm7 zs):¬off zs 0=off zs 2:=by
 obtain⟨l,nd,_⟩:=g;match zs,l with
 |[a,b,c,d,e,f,g],_=>
  intro h;have h:f=g:=h;simp_all
structure DeedG (zs:List Str)(k:Nat)(h:Int)(kind:Str)(ay:List D):Prop where
 parts:∃(parts:List Str)(ss:List Str),vj ce (.str kind)=some (.tup (parts.map .str),false)/\parts.length=ay.length/\(∀x∈parts.zip ay,eQ [.str x.1,x.2]=some (.bl true,false))/\CH (parts.zip ay)=ss.map .str/\ss.length<=2/\∀s∈ss,s∈zs
 len:ay.length<=10
 flat:∀d∈ay,bC d=true/\EZ d=false
 day:(kind=("root" : Str)/\(k=0\/k=2)/\∃r,ay=.str (off zs k)::r)\/(kind≠("root" : Str)/\(∃(day:Int)(r:List D),ay=.int day::r/\day<=h/\0<=day/\(kind=("chosen" : Str)->∃a b c s,r=[a,b,c,.int s]/\day<=s))/\mW ce (.str kind) (.str "day")=some (.int 0,false))
def Bt (zs:LS)(k:Nat)(r:D):Prop:=∃h kind ay,r=row h kind ay/\0<=h/\h<=9999/\DeedG zs k h kind ay
theorem Pw (k q:Str):dz (.str k) (.str q)=some (.bl (decide (k=q)),false):=N9
noncomputable def Px:D->D
 |.tup [_,.tup (.str _::.int d::_)]=>.int d
 |_=>.non
theorem Mf {k:Nat}{h:Int}{kind:Str}{ay:LD}(g:DeedG zs k h kind ay):aW [row h kind ay]=some (Px (row h kind ay),false):=by
 rcases g.day with⟨e,_,r,rfl⟩|⟨e,⟨day,r,rfl,_⟩,hi⟩
 .exact au rfl (bD (cU  (jh     (ba  rfl (dM _ _ _)) rfl (by rw[Pw,zh e]))) (aw rfl))
 .exact au rfl (a9 (cU  (jh     (ba  rfl (dM _ _ _)) rfl (by rw[Pw,So e]))) (aw (ba  rfl (bF  hi rfl))))
theorem Jv {k:Nat}{h:Int}{kind:Str}{ay:LD}(g:DeedG zs k h kind ay):pC [.tup (.str kind::ay)]=some (.bl true,false):=by
 obtain⟨parts,ss,hp,hl,ha,_⟩:=g.parts;have G:(ce.lookup kind).isSome=true:=by
  simp_all
 have hsz:=g.len;have M:f2 bN (aj 0) (fC (.int 0)) [some (.tup (.str kind::ay),false)]=some (.str kind,false):=by simp[Cy]
 have O :=E2 (x:=.str kind) (b:=false) M hp;refine au rfl (a9 (cD (p:=false) (q:=false) N9 λ_=>cD (p:=false) (q:=false) (cU (b:=false) S9) λ_=>bJ (p:=true) (cU (b:=false) (ba  (aN M rfl) N9))) (a9 (cD (p:=false) (q:=false) (cU (b:=false) (E2 (x:=.str kind) (b:=false) M ?_)) λ_=>cU (b:=false) (jh (x:=.int ((ay.length+1:Nat):Int)) (y:=.int (1+(parts.length:Int))) (b1:=false) (b2:=false) N9 (jh (x:=.int 1) (y:=.int parts.length) (b1:=false) (b2:=false) rfl (ba  (aN O rfl) N9) N9) ?_)) (aw (ba (ds:=[.lst ((parts.zip ay).map λ_=>.bl true)]) ?_ (oQ _)))))
 .simp only[Cb,G];rfl
 .simp;lia
 .have:=iQ (fi:=Fd (f1 (vj ce) _) (Gu (aj 0) (lu (fC (.int 1))) m7)) (nT:=2) (cap:=[]) (tg:=wu [0,1]) (fe:=fA eQ (af (aj 0) (af (aj 1) ai)))  (parts.zip ay) (λx=>.tup [.str x.1,x.2]) (λ_=>.bl true)
   (by
    show(f1 (vj ce) _ _).bind _=_;rw[O];simp[RZ,Bo]) (by rw[length_zip];lia) λx hx=>by
    exact⟨_,rfl,false,ba  (by simp[cG]) (ha x hx)⟩
  exact aN (b:=true) this rfl
theorem Gg (r:D):bC (Px r)=true:=by
 unfold Px;split<;>rfl
theorem CJ {k:Nat}{h:Int}{kind:Str}{ay:LD}(g:DeedG zs k h kind ay):lB [row h kind ay]=some (.bl true,false):=by
 have hd:=Mf g;have G:∀ {hh:FS}{r:Option Res},hh _=r->a6 (aU 1 (fA aW (af (aj 0) ai))) hh [some (row h kind ay,false),none]=r:=λe=>Cv  (b:=false) (ba  rfl hd) (Gg _) e;rcases g.day with⟨e,_,r,rfl⟩|⟨e,⟨day,r,rfl,O,T,M⟩,hi⟩
 .exact au rfl (G (bD (cU (b:=false) (jh (x:=.non) (y:=.non)   rfl rfl (by simp[EY]))) (aw rfl)))
 .refine au rfl (G (a9 (cU (b:=false) (jh (x:=.int day) (y:=.non) (b1:=false)  rfl rfl (by simp[EY]))) (a9 ((eP  (q:=false) (cU (b:=false) (jh    (b2:=false) (ba  rfl (dM _ _ _)) rfl (Pw _ _))) λhc=>?_).trans (by rw[Bool.and_false])) (aw ?_))))
  .have hc:=Ss hc;subst hc;obtain⟨a,b,c,s,rfl,hs⟩:=M rfl;refine cU (b:=false) (jh  (y:=.int day)   (ba  rfl (bF (i:=4) (yF Z9) rfl)) rfl ?_);simp;lia
  .refine jh (x:=.int day) (y:=.int h) (b1:=false) (b2:=false) rfl (by simp[row,Cy]) ?_;simp;lia
theorem Mg {k:Nat}{r:D}(g:Bt zs k r):sU [r]=some (.bl true,false):=by
 obtain⟨h,kind,ay,rfl,h0,h1,g⟩:=g;refine au rfl (a9 (cD (p:=false)  (by simp[row]) λ_=>by simp[row]) (aw ((df    (ba  (by simp[row,Cy]) (Me h0 h1)) λ_=>(df    (ba  (by simp[row,FF]) (Jv g)) λ_=>ba  rfl (CJ g)).trans rfl).trans rfl)))
noncomputable def E3:D->Str
 |.tup [_,.tup (_::.str o::_)]=>o
 |_=>("" : Str)
theorem Mh:mW ce (.str "root") (.str "office")=some (.int 0,false):=yF Z9
theorem uC {k:Nat}{r:D}(g:Bt zs k r)(h:aZ r=true):av [r,.str "office"]=some (.str (E3 r),false)/\E3 r=off zs k/\(k=0\/k=2):=by
 obtain⟨a,kind,ay,rfl,_,_,g⟩:=g;have h :=Ss h;subst h;rcases g.day with⟨_,hk,r,rfl⟩|⟨e,_⟩
 .exact⟨bF  Mh rfl,rfl,hk⟩
 simp_all
theorem uE {k:Nat}{r:D}(g:Bt zs k r):aG [r]=some (.str (kindOf r),false):=by
 obtain⟨a,kind,ay,rfl,_⟩:=g;exact dM _ _ _
theorem Mi (k:Str)(ws:LS):rF (.str k) (.lst (ws.map .str))=some (.bl (decide (k∈ws)),false):=by
 simp only[rF,iu,vJ,oD];rw[if_pos ⟨rfl,mq ws⟩]
def xJ (zs:LS)(aa:LD):Prop:=(aa.length<=24/\Nm7 zs)/\∀(j:Nat) r,aa[j]? = some r->Bt zs j r
theorem xJ.mem {aa:LD}(g:xJ zs aa){r:D}(h:r∈aa):∃k,Bt zs k r:=by
 obtain⟨j,hj⟩:=mem_iff_getElem?.mp h;exact⟨j,g.2 j r hj⟩
theorem Gh {aa:LD}(g:xJ zs aa){i:Nat}{r:D}(h:aa[i]? = some r):gF [.tup (aa.take i),r]=some (.bl false,false):=by
 have f:=g.2 i r h;have k:=g.1.1;refine au rfl (aw ((df (p:=aZ r) (q:=false) (b1:=false) (jh   (b1:=false) (b2:=false) (ba (ds:=[r]) rfl (uE f)) rfl (Pw _ _)) λM=>?_).trans (by rw[Bool.and_false])));obtain⟨l,T,hk⟩:=uC f M;have G:∀x∈aa.take i,∃j,j<i/\Bt zs j x:=λx hx=>by
  obtain⟨j,hj⟩:=mem_iff_getElem?.mp hx;rw[List.getElem?_take]at hj;split at hj
  .rename_i U;exact⟨j,U,g.2 j x hj⟩
  simp_all
 have hc:=gd (fi:=bT (aj 0)) (nT:=1) (cap:=[]) (tg:=da 0) (c:=aY (f2 dz (fA aG (af (aj 0) ai)) (fC _))) (fe:=fA av (af (aj 0) (af (fC (.str "office")) ai))) (ρ:=[some (.tup (aa.take i),false)]) (aa.take i) (λx=>x) aZ _ N9 S9 λx hx=>by
  obtain⟨j,hj,O⟩:=G x hx;exact⟨_,rfl,cU (b:=false) (jh (x:=.str (kindOf x))  (b1:=false) (b2:=false) (ba (ds:=[x]) (by simp[cG]) (uE O)) rfl (Pw _ _)),λhx=>⟨false,ba  (by simp[cG]) (uC O hx).1⟩⟩
 have a:iT [.tup (aa.take i)]=some (.lst ((((aa.take i).filter aZ).map E3).map .str),true):=by
  rw[uP];exact au rfl (aw hc)
 refine jh (x:=.str (E3 r))  (b1:=false) (b2:=true) (ba  rfl l) (ba  rfl a) ?_;rw[Mi];congr 3;refine So λm=>?_;obtain⟨x,hx,e⟩:=vO m;obtain⟨hx,n⟩:=vN hx;obtain⟨j,hj,O⟩:=G x hx;obtain⟨_,d,o⟩:=uC O n;rw[T,d]at e;have:=Ju g.1.2;lia
theorem Bu:∀(ss G:LS){x:Str},x∈ss.foldl kZ G->x∈G\/x∈ss
 |[],G,x,h=>.inl h
 |y::ss,G,x,h=>by
  rcases Bu ss _ h with h|h
  .rcases Aa.mp h with h|h
   .exact .inl h
   simp_all
  simp_all
theorem uF:∀(ss G:LS),G.Nodup->(ss.foldl kZ G).Nodup
 |[],G,h=>h
 |y::ss,G,h=>uF ss _ (rP h y)
theorem Bv {ss:LS}{x:Str}(h:x∈gX ss):x∈ss:=by
 rcases Bu ss [] h with h|h
 .cases h
 .exact h
theorem Bw:∀(l m:LS),l.Nodup->(∀x∈l,x∈m)->l.length<=m.length
 |[],m,_,_=>uN _
 |x::l,m,h,s=>by
  rw[nodup_cons]at h;have:=Bw l _ h.2 λy hy=>(List.mem_erase_of_ne  (b:=x) (λe=>h.1 (by rw[<-e];exact hy))).mpr (s y (mZ _ hy));grind
theorem Jw {h:Int}{kind:Str}{ay:LD}{parts:LS}(hp:vj ce (.str kind)=some (.tup (parts.map .str),false)):iU [row h kind ay]=some (.lst ((parts.zip ay).map λx=>.tup [.str x.1,x.2]),true):=by
 refine au rfl (aw ?_);have G:f1 _ (fA _ (af (aj 0) ai)) [some (row h _ ay,false)]=some _:=E2   (ba  rfl (dM h _ _)) hp;have e2:Gu (f2 bN (aj 0) (fC (.int 1))) (lu (fC (.int 1))) m7 [some (row h kind ay,false)]=some (.tup ay,false):=by simp[row,FF,RZ]
 show(((f1 _ _ [some _]).bind λx=>(Gu _ _ _ [some _]).bind _).map _)=_;rw[G,e2];simp[Bo]
theorem Gi {k:Nat}{r:D}(g:Bt zs k r):∃ss:LS,jq [r]=some (.lst (ss.map .str),true)/\ss.length<=2/\∀s∈ss,s∈zs:=by
 obtain⟨h,kind,ay,rfl,_,_,g⟩:=g;obtain⟨parts,ss,hp,hl,_,hk,M,T⟩:=g.parts;have G:=gd (fi:=bT (fA iU (af (aj 0) ai))) (nT:=2) (cap:=[]) (tg:=wu [0,1]) (c:=fy (aY (f2 rF (aj 0) (fC iR))) (aY (f2 kg (aj 1) (fC .non)))) (fe:=aj 1)
  (ρ:=[some (row h kind ay,false),none]) (parts.zip ay) (λx=>.tup [.str x.1,x.2]) (λx=>j8 x.1 && there x.2) (·.2) (by
   have U:fA iU (af (aj 0) ai) [some (row h kind ay,false),none]=_:=ba  rfl (Jw hp);simp_all) (by
   have:=g.len;simp<;>lia) λx hx=>by
   have O:=(g.flat x.2 (of_mem_zip hx).2);refine⟨_,rfl,eP (cU (b:=false) ?_) λ_=>cU (b:=false) ?_,λ_=>⟨false,?_⟩⟩
   .rfl
   .exact jh (x:=x.2) (y:=.non) (b1:=false) (b2:=false) (by simp[cG]) rfl (Br _ O.2)
   rfl
 refine⟨mC (gX ss),au rfl (bV  ?_ (eK ss) (aw ?_)),?_,?_⟩
 .exact hk ▸ G
 .simp<;>lia
 .rw[(dH _).length_eq];exact vR (nX ss) M
 .grind[Bv,dH]
theorem Gj {aa:LD}(g:∀r∈aa,∃k,Bt zs k r)(hl:aa.length<=60)(M:zs.length=7):∃n:Nat,iV [.tup aa]=some (.int n,false)/\n<=7:=by
 obtain⟨ρ',e,ys,v,rfl,hz,G⟩:=fB (tg:=da 2) (g:=kW) (λi ρ=>∃(ys:LS)(v:OB),ρ=[some (.tup aa,false),some (.lst (ys.map .str),true),v]/\ys.length<=2*i/\∀z∈ys,z∈zs) aa
  _ ⟨[],none,rfl,N9,N9⟩ (by
   rintro i d ρ hd ⟨ys,v,rfl,hz,G⟩;have hi:=(vV hd).1;obtain⟨k,O⟩:=g d (vL hd);obtain⟨ss,hp,T,U⟩:=Gi O;have hsz:(ys.map D.str).length+(ss.map D.str).length<=sizeLine:=dS S9;refine⟨_,[some _,some _,some (d,false)],rfl,.inl ?_,ys++ss,some (d,false),rfl,S9,?_⟩
   .have hv:fA jq (af (aj 2) ai) [some (.tup aa,false),some (.lst (ys.map .str),true),some (d,false)]=some _:=ba (ds:=[d]) rfl hp;show Hz 1 _ [some _,some _,some (d,false)]=_;simp only[Hz,List.getElem?_cons_succ,List.getElem?_cons_zero,hv,vJ];rw[if_pos ⟨trivial,eK ss,hsz⟩];simp
   grind)
 refine⟨(gX ys).length,au rfl (bV (ds:=[]) I9 rfl (cR (i6 (ds:=aa) (by simp[jV]) e) (aw (E2  (b:=false) rfl ?_)))),?_⟩
 .simp<;>lia
 .exact vR (Bw (gX ys) zs (uF ys [] nodup_nil) λz hz=>G z (Bv hz)) (le_of_eq M)
theorem CK {aa:LD}(g:xJ zs aa){i:Nat}(hi:i<aa.length):kE [.tup aa,.int i]=some (.bl false,false):=by
 obtain⟨r,M⟩:∃r,aa[i]? = some r:=⟨_,vU hi⟩;have ha:=bK M;have T:=g.1.1;have G:∀ρ:DL.Env,ρ[0]? = some (some (.tup aa,false))->ρ[1]? = some (some (.int i,false))->f2 bN (aj 0) (aj 1) ρ=some (r,false):=λρ h0 h1=>by simp[h0,h1,ha]
 obtain⟨n,hn,U⟩:=Gj  (λx hx=>g.mem (mem_of_mem_take hx)) S9 g.1.2.len;have O:=Bn aa (i+1);refine au rfl (a9 (cD (p:=false) (q:=false) (cU (b:=false) (by simp[jn];lia)) λ_=>bJ (p:=true) (cU (b:=false) (ba (ds:=[r]) (aN (G _ rfl rfl) rfl) (Mg (g.2 i r M))))) (aw ((sM (p:=false) (q:=false)  (ba  (aN  (b:=false) (by simp[Bn]) (aN (G _ rfl rfl) rfl)) (Gh g M)) λ_=>jh  (y:=.int 20)  (b2:=false) (ba  (aN  (b:=false) (by simp;exact O) rfl) hn) rfl S9).trans rfl)))
theorem qF {aa:LD}(g:xJ zs aa)(hf:b8 aa=true)(d:D)(hd:d=.lst aa\/d=.tup aa):cF [d]=some (.tup aa,false):=by
 have hl:=g.1.1;obtain⟨ρ',e,v,rfl⟩:=l5 (tg:=da 2) (g:=lE) _ (λi ρ=>∃v:Option _,ρ=[some (d,false),some (.tup aa,false),v])
  _ ⟨none,rfl⟩ (by
   rintro i ρ hi ⟨v,rfl⟩;exact⟨_,_,rfl,.inl (lb (cU  (ba  rfl (CK g hi))) rfl),some _,rfl⟩)
 refine au rfl (a9 (bJ (p:=true) (cU (b:=false) (ba  (aN rfl (aN (d:=.tup [.ty "list",.ty "tuple"]) (b:=false) I9 rfl)) ?_))) (Cv  (b:=false) (ba  rfl ?_) (by simp[hf]) (cR (l7 (gb  (b:=false) N9 M9) e) (jm rfl))))
 .rcases hd with rfl|rfl<;>simp
 .rcases hd with rfl|rfl<;>simp
end Lw
namespace Lw
open PySem PySem.Spec DL L2
theorem CL (a:Int){m:Int}(h:0<m):cw (.int a) (.int m)=some (.int (a % m),false):=by simp[h]
theorem Sa (a:Int){m:Int}(h:0<m)(h2:m<1073741824):cu (.int a) (.int m)=some (.int (a / m),false):=by simp[h,h2]
theorem im {f:FE}{ρ:DL.Env}{a m:Int}(e:f ρ=sI a)(h:0<m):f2 cw f (fI m) ρ=sI (a % m):=bL _ _ e rfl (CL a h)
theorem uG {f:FE}{ρ:DL.Env}{a m:Int}(e:f ρ=sI a)(h:0<m)(h2:m<1073741824):f2 cu f (fI m) ρ=sI (a / m):=bL _ _ e rfl (Sa a h h2)
theorem CM (a:Int){b:Int}(h : -1000000<=b/\b<=1000000):mz (.int a) (.int b)=some (.int (a*b),false):=by
 have : -18446744073709551616<b/\b<18446744073709551616:=M9
 simp[this]
theorem za {k:Int}(h : -1000000000000<=k/\k<=1000000000000):Builtin.Int.intBits k<=64:=intBits_le_64 M9 M9
theorem ra {ns:LI}(hf:OR ns)(k:Nat)(hk:k<=100):∃c:Int,jO [.lst (ns.map .int),.int k]=sI c:=by
 have G:∀ρ:DL.Env,ρ[0]? = some (sL (ns.map .int))->fA cH (fV 0 ai) ρ=sI ns.length:=λρ h=>by
  simp_all
 have gz:∀v:Int,Builtin.Int.intBits v<=2097152->aH (f2 cw (f2 OS (aj 2) (aj 2)) (fI 2147483629)) [sL (ns.map .int),sI k,sI v]=some (.rt (.int (v*v % 2147483629)) false):=λv hv=>
  aw (im (bL (.int v) (.int v) rfl rfl (by simp[hv])) V9)
 by_cases h:k<ns.length
 .refine⟨ns.getD k 0,au rfl (bD (dP (bL (.int k) (.int ns.length) rfl (G _ rfl) S9)) (aw (bL (.lst (ns.map .int)) (.int k) rfl rfl ?_)))⟩;have:=DQ (xs:=ns) (i:=k) M9 (by simpa using h);rw[Int.toNat_natCast]at this;exact this
 .have O:Builtin.Int.intBits (10007*(k:Int)+13)<=64:=za M9;have b:f2 cO (f2 mz (fI 10007) (aj 1)) (fI 13) [sL (ns.map .int),sI k,none]=sI (10007*k+13):=bL (.int (10007*k)) (.int 13) (bL (.int 10007) (.int k) rfl rfl (CM _ M9)) rfl rfl;have d:aY (f2 Hh (aj 1) (fA cH (fV 0 ai))) [sL (ns.map .int),sI k,none]=some false:=dP (bL (.int k) (.int ns.length) rfl (G _ rfl) S9);by_cases hz:0<ns.length
  .have M:(0:Int)<ns.length:=M9
   have h5:=mod_lt (x:=(k:Int)*5) M;obtain⟨j,hj⟩:∃j:Nat,(k:Int)*5 % ns.length=j:=⟨((k:Int)*5 % ns.length).toNat,M9⟩;have T:j<ns.length:=M9
   have hb:Builtin.Int.intBits (ns.getD j 0)<=1048576:=hf _ (by grind);have ei:f2 bN (aj 0) (f2 cw (f2 mz (aj 1) (fI 5)) (fA cH (fV 0 ai))) [sL (ns.map .int),sI k,sI (10007*k+13)]=sI (ns.getD j 0):=by
    refine bL (.lst (ns.map .int)) (.int j) rfl (hj ▸ bL (.int (k*5)) (.int ns.length) (bL (.int k) (.int 5) rfl rfl (CM _ V9)) (G _ rfl) (CL _ M)) ?_;have:=DQ (xs:=ns) (i:=j) M9 (by simpa using T);rw[Int.toNat_natCast]at this;exact this
   generalize ns.getD j 0=x at hb ei;have U:(k:Int)*k<=10000/\0<=(k:Int)*k:=by
    have h1:k*k<=100*100:=Nat.mul_le_mul hk hk;grind
   have ev:f2 cO (f2 cO (f2 mz (f2 bN (aj 0) (f2 cw (f2 mz (aj 1) (fI 5)) (fA cH (fV 0 ai)))) (fI 69621)) (f2 mz (f2 mz (aj 1) (aj 1)) (fI 1009))) (fI 7) [sL (ns.map .int),sI k,sI (10007*k+13)]=sI (x*69621+k*k*1009+7) :=
    bL (.int (x*69621+k*k*1009)) (.int 7) (bL (.int (x*69621)) (.int (k*k*1009)) (bL (.int x) (.int 69621) ei rfl (CM _ V9)) (bL (.int (k*k)) (.int 1009) (bL (.int k) (.int k) rfl rfl (CM _ M9)) rfl (CM _ V9)) rfl) rfl rfl
   generalize (k:Int)*k=y at U ev;have a:Builtin.Int.intBits (x*69621+y*1009+7)<=2097152:=by
    have h1:=intBits_mul_le hb (za (k:=69621) V9);have h2:=intBits_add_le h1 (za (k:=y*1009) M9);have h3:=intBits_add_le h2 (za (k:=7) V9);exact vR h3 V9
   exact⟨_,au rfl (a9 d (gR (.int (10007*k+13)) b rfl (cR (pB (dP (bL (.int ns.length) (.int 0) (G _ rfl) rfl S9)) (sK ev rfl)) (gz _ a))))⟩
  .refine⟨_,au rfl (a9 d (gR (.int (10007*k+13)) b rfl (cR (lb (dP (bL (.int ns.length) (.int 0) (G _ rfl) rfl (by rw[show(ns.length:Int)=0 by lia];rfl))) rfl) (gz (10007*k+13) (vR O V9)))))⟩
theorem Py {ρ:DL.Env}{i n:Nat}{ds:LD}{G M:FE}{d:D}{b b':Bool}(e:ρ[i]? = some (some (.lst ds,true)))(ev:M ρ=some (d,b))(ek:G ρ=some (.int n,b'))(hn:n<ds.length)(hf:bC d=true):Le i G M ρ=some (.nx (ρ.set i (some (.lst (ds.set n d),true)))):=by
 simp_all[GD]
theorem E4 (x:Int):0<=x % 26/\x % 26<26:=mod_lt V9
noncomputable def uH:PySem.Str:="abcdefghijklmnopqrstuvwxyz"
theorem Gk:uH.cps.size=26:=Z9
def Mj (x:Int):Nat:=uH.cps.toList.getD (x % 26).toNat 0
theorem Jx (x:Int):bN (.str uH) (.int (x % 26))=sS ⟨#[Mj x]⟩:=DL.BJ (E4 x).1 (by simp_all[Gk,E4]) Z9
theorem Jy:∀i:_root_.Fin 26,uB (uH.cps.toList.getD i.val 0)=true:=Z9
theorem Jz:∀i j:_root_.Fin 26,uH.cps.toList.getD i.val 0=uH.cps.toList.getD j.val 0->i=j:=Z9
theorem E5 (x:Int):uB (Mj x)=true:=Jy ⟨(x % 26).toNat,M9⟩
theorem Mk {x y:Int}(h:Mj x=Mj y):x % 26=y % 26:=by
 have hx:=E4 x;have hy:=E4 y;have:=Jz ⟨(x % 26).toNat,M9⟩ ⟨(y % 26).toNat,M9⟩ h;grind
noncomputable def sg (cs:LN):LS:=cs.map λc=>⟨#[c]⟩
theorem J0:∀cs:LN,((sg cs).map (·.length)).sum=cs.length
 |[]=>rfl
 |c::cs=>by
  show 1+((sg cs).map _).sum=cs.length+1;rw[J0 cs];lia
theorem By:∀(zs:LS)(y:Str),(Str.join ("" : Str) (y::zs)).cps.toList=(y::zs).flatMap λz=>z.cps.toList
 |[],y=>by rw[flatMap_cons,List.flatMap_nil,uQ];rfl
 |z::r,y=>by
  have G:∀a b:Str,(a++b).cps.toList=a.cps.toList++b.cps.toList:=λa b=>by show(a.cps++b.cps).toList=_;simp
  show(y++("" : Str)++Str.join _ _).cps.toList=_;rw[G,G,By r z,show("" : Str).cps.toList=[]from rfl,uQ];rfl
theorem J5 {zs:LS}(h:zs≠[]):(Txt.join ("" : Str) zs).cps.toList=zs.flatMap λz=>z.cps.toList:=by
 cases zs with
 |nil=>exact absurd rfl h
 |cons y zs=>
  simp_all[Txt.join,StrLaws.glued_eq_join,By]
theorem CN {cs:LN}(h:cs≠[]):(Txt.join ("" : Str) (sg cs)).cps.toList=cs:=by
 simp_all[J5,sg,List.flatMap_map]
theorem Sb {cs:LN}(h1:1<=cs.length)(G:cs.length<=8)(hl:∀c∈cs,uB c=true):pR (Txt.join ("" : Str) (sg cs))=true:=by
 have e:=CN (cs:=cs) (λz=>by rw[z]at h1;cases h1);unfold pR;rw[<-Bq,vC];simp_all
theorem Ml (cs:LN)(h:cs.length<=1000):Dv (.str "") (.lst ((sg cs).map .str))=sS (Txt.join ("" : Str) (sg cs)):=by
 show(ga _).bind _=_;rw[oH];show(if _ then _ else _)=_;rw[J0,show("" : Str).length=0 from rfl,if_pos M9]
theorem J6 (c:Int):∃zs:LS,pE [.int c]=lT (zs.map .str)/\Nm7 zs:=by
 have r:=mod_lt (x:=c) (m:=8) V9;obtain⟨n,hn⟩:∃n:Nat,1+c % 8=n:=⟨(1+c % 8).toNat,M9⟩;let bs:LN:=(List.range n).map λ(k:Nat)=>Mj (c / (3+4*k));have M:bs.length=n:=by simp[bs]
 have T:∀x∈bs,uB x=true:=λx hx=>by obtain⟨k,_,rfl⟩:=vO hx;exact E5 _
 have hb:=iQ (fi:=fj (f2 cO (fI 1) (f2 cw (aj 0) (fI 8)))) (nT:=1) (cap:=[1,0]) (tg:=da 0) (fe:=f2 bN (aj 1) (f2 cw (f2 cu (aj 2) (f2 cO (fI 3) (f2 mz (fI 4) (aj 0)))) (fI 26)))
  (ρ:=[sI c,sS uH,none,none,none,none,none]) (List.range n) (λ(k:Nat)=>.int k) _
  (by rw[gb (j:=n) (b:=false) (hn ▸ bL (.int 1) (.int (c % 8)) rfl (im rfl V9) rfl) M9,pA,uP];rfl) S9 λk hk=>by
   have hk:=mem_range.mp hk;exact⟨_,rfl,false,bL (.str uH) (.int (c / (3+4*k) % 26)) rfl (im (bL (.int c) (.int (3+4*k)) rfl (bL (.int 3) (.int (4*k)) rfl (bL (.int 4) (.int k) rfl rfl (CM _ M9)) rfl) (Sa _ M9 M9)) V9) (Jx _)⟩
 have U:(List.range n).map (λ(k:Nat)=>D.str ⟨#[Mj (c / (3+4*k))]⟩)=(sg bs).map .str:=by simp[sg,bs]
 rw[U]at hb;have p:=mod_lt (x:=c / 8) (m:=n) M9;obtain⟨a,ha⟩:∃a:Nat,c / 8 % n=a:=⟨(c / 8 % n).toNat,M9⟩;have O:a<bs.length:=M9
 let nm:Nat->LN:=λi=>bs.set a (Mj (c / 64+3*i));have G:∀i,(nm i).length=n:=λi=>by simp[nm,M]
 obtain⟨ρ',e,f,o,rfl⟩:=l5 (tg:=da 5) (g:=tL) 7 (λi ρ=>∃f o:OB,ρ=[sI c,sS uH,lT ((sg bs).map .str),sI a,lT (((List.range i).map λi=>Txt.join ("" : Str) (sg (nm i))).map .str),f,o])
  _ ⟨none,none,rfl⟩ (by
   rintro i ρ hi ⟨f,o,rfl⟩;have es:((sg bs).map D.str).set a (.str ⟨#[Mj (c / 64+3*i)]⟩)=(sg (nm i)).map .str:=by simp only[sg,nm,uP,List.map_set,Function.comp]
   refine⟨_,_,rfl,.inl (bV (ds:=(sg bs).map .str) N9 (eK _) (cR (Py (n:=a) (ds:=(sg bs).map .str) (d:=.str ⟨#[Mj (c / 64+3*i)]⟩) (b:=false) (b':=false) rfl ?_ rfl (by simpa [sg]using O) rfl) (ie (d:=.str (Txt.join ("" : Str) (sg (nm i)))) (b:=false) rfl ?_ rfl (bO S9)))),some (.int i,false),some (.lst ((sg (nm i)).map .str),true),?_⟩
   .exact bL (.str uH) (.int ((c / 64+3*i) % 26)) rfl (im (bL (.int (c / 64)) (.int (3*i)) (uG rfl V9 V9) (bL (.int 3) (.int i) rfl rfl (CM _ M9)) rfl) V9) (Jx _)
   .rw[es];exact bL (.str "") (.lst ((sg (nm i)).map .str)) rfl rfl (Ml _ (by rw[G];lia))
   .rw[es,List.range_succ];simp)
 refine⟨(List.range 7).map λi=>Txt.join ("" : Str) (sg (nm i)),au rfl (gR (.str uH) rfl rfl (bV hb (eK _) (gR (.int a) ?_ rfl (bV (ds:=[]) I9 rfl (cR (l7 (gb (j:=7) (b:=false) rfl V9) e) (jm rfl)))))),N9,?_,λz hz=>?_⟩
 .rw[<-ha];refine bL (.int (c / 8)) (.int n) (uG rfl V9 V9) ?_ (CL _ M9);refine aI [.lst ((sg bs).map .str)] (bx rfl rfl) ?_;rw[gQ];simp[sg,M]
 .refine pairwise_map.mpr (List.Pairwise.imp_of_mem ?_ (List.nodup_range (n:=7)));intro i j hi hj q e;have e:=congrArg (λz:Str=>z.cps.toList) e;have e:nm i=nm j:=by
   have h1:∀i,nm i≠[]:=λi z=>by have:=G i;rw[z]at this;simp at this;lia
   simpa only[CN (h1 i),CN (h1 j)]using e
  have e:=congrArg (λl:LN=>l[a]?) e;simp only[nm,getElem?_set_self O,Option.some.injEq]at e;have:=Mk e;have hi:=mem_range.mp hi;have hj:=mem_range.mp hj;lia
 .obtain⟨i,_,rfl⟩:=vO hz;refine Sb (by rw[G];lia) (by rw[G];lia) λx hx=>?_;rcases List.mem_or_eq_of_mem_set hx with h|h
  .exact T x h
  .rw[h];exact E5 _
def PV (p:Str)(d:D):Bool:=Tr (eQ [.str p,d]) (.bl true) false
def kM:LS->LD->Bool
 |p::ps,d::ds=>PV p d && kM ps ds
 |_,_=>true
theorem mu:∀ {ps:LS}{ds:LD},kM ps ds=true->∀x∈ps.zip ds,eQ [.str x.1,x.2]=some (.bl true,false)
 |[],_,_,x,h=>by simp at h
 |_::_,[],_,x,h=>by simp at h
 |p::ps,d::ds,h1,x,h=>by
  have h1:=(vC _ _ ▸ h1:PV p d=true/\kM ps ds=true);rcases vP h with rfl|h
  .exact yF h1.1
  .exact mu h1.2 x h
theorem aS {p:Str}{d:D}{ps:LS}{ds:LD}(h:PV p d=true)(r:kM ps ds=true):kM (p::ps) (d::ds)=true:=by unfold kM;rw[h,r];rfl
theorem kO:∀n:_root_.Fin 10,PV "day" (.int (n.val:Int))=true:=Z9
theorem Nh:∀n:_root_.Fin 16,PV "of" (.int (n.val:Int))=true:=Z9
theorem J7:∀n:_root_.Fin 4,PV "further" (.int (n.val:Int))=true:=Z9
noncomputable def MK:LN:=[1,2,3,5,7]
theorem zb:∀m∈MK,PV "matters" (.int ((m:Nat):Int))=true:=Z9
theorem CO:∀m∈MK,m∈MS:=V9
noncomputable def Mm (d:Nat):List (Int×OI):=[(0,none),(0,some 30),(1,some 20),(d,some (d+8)),(d+1,none),(3,some 12)]
theorem zc:∀d:_root_.Fin 10,∀x∈Mm d.val,PV "stretch" (jR x)=true:=Z9
theorem J8:∀n:_root_.Fin 12,PV "since" (.int (n.val:Int))=true:=Z9
theorem xK {p:Str}{d:D}(h:eQ [.str p,d]=some (.bl true,false)):PV p d=true:=by unfold PV;rw[h];rfl
theorem uI {z:Str}(h:pR z=true):PV "by" (.str z)=true:=xK (yZ Z9 Z9 (lV h))
theorem Bz {z:Str}(h:pR z=true):PV "person" (.str z)=true:=xK (yZ Z9 Z9 (lV h))
theorem zd {z:Str}(h:pR z=true):PV "office" (.str z)=true:=xK (yZ Z9 Z9 (lV h))
theorem J9:PV "whom" .non=true:=Z9
theorem Sc {z:Str}(h:pR z=true):PV "whom" (.str z)=true :=
 xK (au rfl (a9 (c2 Z9) (a9 (c3 Z9) (bD (cq Z9) (aw ((sM (p:=false)  (b1:=false) (by simp ) λ_=>aI _ rfl (lV h)).trans rfl))))))
theorem Pz {ps:LS}(h1:1<=ps.length)(G:ps.length<=8)(h:∀p∈ps,pR p=true):PV "pieces" (.tup (ps.map .str))=true:=xK (Gf (CG h1 G h))
theorem P0 {c:Nat}{z:Str}(hc:c<3)(h:pR z=true):PV "changes" (.tup [.tup [.int (c:Int),.str z]])=true:=by
 have G:jp [.tup [.int (c:Int),.str z]]=some (.bl true,false):=au rfl (a9 (cD (p:=false) (q:=false) N9 λ_=>by simp) (aw ((df (p:=true) (q:=true) (b1:=false) (aI [.int (c:Int),.int 0,.int 7] (by simp[Cy,gS]) (xH M9 M9)) λ_=>aI [.str z] (by simp[FF]) (xI h)).trans rfl)));have h1:=iQ (fi:=bT (aj 0)) (nT:=1) (cap:=[]) (tg:=da 0) (fe:=fA jp (fV 0 ai)) (ρ:=[sJ [.tup [.int (c:Int),.str z]],none]) [()] _ (λ_=>.bl true) rfl V9 λ_ _=>⟨[sJ [.int (c:Int),.str z]],rfl,false,aI [.tup [.int (c:Int),.str z]] rfl G⟩;have h2:=iQ (fi:=bT (aj 0)) (nT:=1) (cap:=[]) (tg:=da 0) (fe:=cP 0 0) (ρ:=[sJ _,none]) [()] _ (λ_=>.int (c:Int)) rfl V9 λ_ _=>⟨[sJ [.int (c:Int),.str z]],rfl,false,by simp[Cy]⟩;have h3:=iQ (fi:=Fd (aj 1) (Gu (aj 1) (lu (fI 1)) m7)) (nT:=2) (cap:=[]) (tg:=wu [0,1]) (fe:=f2 Hh (aj 0) (aj 1)) (ρ:=[sJ [.tup [.int (c:Int),.str z]],lT [.int (c:Int)]]) ([]:List Unit) (λ_=>.non) (λ_=>.bl true) H9 V9 λ_ h=>nomatch h;have M:kB [.tup [.tup [.int (c:Int),.str z]]]=some (.bl true,false):=au rfl (a9 (cD (p:=false) (q:=false) N9 λ_=>bJ (p:=true) (cU (b:=false) (ba (ds:=[.lst [.bl true]]) (aN (b:=true) h1 rfl) (oQ [()])))) (bV (ds:=[.int (c:Int)]) h2 rfl (aw (ba (ds:=[.lst []]) (aN (b:=true) h3 rfl) (oQ ([]:List Unit))))));exact xK (au rfl (a9 (c2 Z9) (a9 (c3 Z9) (a9 (cq Z9) (a9 (cq Z9) (a9 (cq Z9) (a9 (cq Z9) (a9 (cq Z9) (a9 (cq Z9) (a9 (cq Z9) (aw (ba  rfl M))))))))))))
theorem UD:j8 ("office" : Str)=false:=Z9
theorem XU:j8 ("matters" : Str)=false:=Z9
theorem XV:j8 ("further" : Str)=false:=Z9
theorem Tu:j8 ("day" : Str)=false:=Z9
theorem UE:j8 ("person" : Str)=true:=Z9
theorem Wi:j8 ("by" : Str)=true:=Z9
theorem UF:j8 ("of" : Str)=false:=Z9
theorem Ni {zs:LS}{k day:Nat}{h:Int}{kind:Str}{r:LD}(parts ss:LS)(hc:vj ce (.str kind)=some (.tup (parts.map .str),false))(hl:parts.length=(D.int (day:Int)::r).length)(hp:kM parts (.int (day:Int)::r)=true)(hk:CH (parts.zip (.int (day:Int)::r))=ss.map .str)(O:∀s∈ss,s∈zs)(hf:(r.all λd=>bC d && !EZ d)=true)(hd:(day:Int)<=h)(h2:decide (ss.length<=2)=true:=by rfl)(M:decide (r.length<=9)=true:=by rfl)(G:(decide (kind = "root") || decide (kind = "chosen"))=false:=by decide +kernel)(hi:mW ce (.str kind) (.str "day")=sI 0:=by exact cL):DeedG zs k h kind (.int (day:Int)::r) :=
 have G:=Bool.or_eq_false_iff.mp G
 ⟨⟨parts,ss,hc,hl,mu hp,hk,Ss h2,O⟩,by grind,λd hd=>by
  rcases vP hd with rfl|hd
  .exact⟨rfl,rfl⟩
  grind,.inr ⟨of_decide_eq_false G.1,⟨day,_,rfl,hd,M9,λe=>absurd e (of_decide_eq_false G.2)⟩,hi⟩⟩
theorem E6 (x:Int×OI):(bC (jR x) && !EZ (jR x))=true:=by rw[lQ];rfl
structure Dw (zs:List Str)(k day:Nat)(kind:Str)(ay:List D):Prop where
 dd:Dd kind ay
 g:∀h:Int,(day:Int)<=h->DeedG zs k h kind ay
 w:∀h:Int,CA (row h kind ay)
 p:kind = "leave" \/ kind = "named"->∃a b p l,ay=a::b::.str p::l/\p∈zs.take 5
theorem P1 {kind:Str}{P:Prop}(e:(decide (kind = "leave") || decide (kind = "named"))=false):kind = "leave" \/ kind = "named"->P:=M9
theorem now {kind:Str}{ay:LD}(h:Int)(e:(decide (kind = "paper") || decide (kind = "like"))=false):CA (row h kind ay):=λz=>by
 have e:=Bool.or_eq_false_iff.mp e;rcases z with z|z
 .exact absurd z (of_decide_eq_false e.1)
 .exact absurd z (of_decide_eq_false e.2)
section
variable {zs:LS}(z7:Nm7 zs) {k day n:Nat}{by_ B5:Str}(hd:day<10) (hb:by_∈zs)
include z7 hd hb
theorem Mn (kind:Str)(hk:kind = "death" \/ kind = "lost" \/ kind = "found"):Dw zs k day kind [.int (day:Int),.str by_]:=by
 refine⟨.three _ hk _ _,λh hh=>?_,λh=>now h (by rcases hk with rfl|rfl|rfl<;>decide +kernel),P1 (by rcases hk with rfl|rfl|rfl<;>decide +kernel)⟩
 rcases hk with rfl|rfl|rfl<;>exact Ni ["day","person"] [by_] cL rfl (aS (kO ⟨day,hd⟩) (aS (Bz (z7.nm _ hb)) rfl)) (by simp[CH,Tu,UE]) (by simpa using hb) rfl hh
theorem JB (hn:n<16)(kind:Str)(hk:kind = "copy" \/ kind = "call"):Dw zs k day kind [.int (day:Int),.str by_,.int (n:Int)]:=by
 refine⟨.copy _ hk _ _ _,λh hh=>?_,λh=>now h (by rcases hk with rfl|rfl<;>decide +kernel),P1 (by rcases hk with rfl|rfl<;>decide +kernel)⟩
 rcases hk with rfl|rfl<;>exact Ni ["day","by","of"] [by_] cL rfl (aS (kO ⟨day,hd⟩) (aS (uI (z7.nm _ hb)) (aS (Nh ⟨n,hn⟩) rfl))) (by simp[CH,Tu,Wi,UF]) (by simpa using hb) rfl hh
theorem Mo (M:B5∈zs.take 5){m f:Nat}(hm:m∈MK){x:Int×OI}(hx:x∈Mm day)(hf:f<4):Dw zs k day "leave" [.int (day:Int),.str by_,.str B5,.int (m:Int),jR x,.int (f:Int)]:=by
 have G :=mem_of_mem_take M;exact⟨.leave _ _ _ m (CO m hm) x _,λh hh=>Ni ["day","by","person","matters","stretch","further"] [by_,B5] cL rfl (aS (kO ⟨day,hd⟩) (aS (uI (z7.nm _ hb)) (aS (Bz (z7.nm _ G)) (aS (zb m hm) (aS (zc ⟨day,hd⟩ x hx) (aS (J7 ⟨f,hf⟩) rfl)))))) H9 (by simp[hb,G]) (by simp only[all_cons,E6];rfl) hh,λh=>now h Z9,λ_=>⟨_,_,_,_,rfl,M⟩⟩
theorem Mp (M:B5∈zs){w:D}(hw:w=.non\/w=.str B5){m:Nat}(hm:m∈MK){x:Int×OI}(hx:x∈Mm day){p q:Str}(hp:p∈zs)(hq:q∈zs):Dw zs k day "paper" [.int (day:Int),.str by_,.int (m:Int),jR x,w,.tup [.str p,.str q]]:=by
 have G :=Pz (ps:=[p,q]) N9 N9 λz hz=>by
  rcases vP hz with rfl|hz
  .exact z7.nm _ hp
  .cases uT hz;exact z7.nm _ hq
 refine⟨.paper "paper" (.inl rfl) _ _ m (CO m hm) x _ (by rcases hw with rfl|rfl<;>rfl) (by rcases hw with rfl|rfl<;>rfl),λh hh=>?_,λh _=>⟨x,w,_,_,_,_,m,_,.inl rfl,rfl,hw.imp id λe=>⟨_,e⟩⟩,P1 Z9⟩
 rcases hw with rfl|rfl
 .exact Ni ["day","by","matters","stretch","whom","pieces"] [by_] cL rfl (aS (kO ⟨day,hd⟩) (aS (uI (z7.nm _ hb)) (aS (zb m hm) (aS (zc ⟨day,hd⟩ x hx) (aS J9 (aS G rfl)))))) H9 (by simpa using hb) (by simp only[all_cons,E6];rfl) hh
 .exact Ni ["day","by","matters","stretch","whom","pieces"] [by_,B5] cL rfl (aS (kO ⟨day,hd⟩) (aS (uI (z7.nm _ hb)) (aS (zb m hm) (aS (zc ⟨day,hd⟩ x hx) (aS (Sc (z7.nm _ M)) (aS G rfl)))))) H9 (by simp[hb,M]) (by simp only[all_cons,E6];rfl) hh
theorem P2 {m:Nat}(hm:m∈MK){x:Int×OI}(hx:x∈Mm day)(hn:n<16){c:Nat}(hc:c<3){p:Str}(hp:p∈zs):Dw zs k day "like" [.int (day:Int),.str by_,.int (m:Int),jR x,.non,.int (n:Int),.tup [.tup [.int (c:Int),.str p]]] :=
 ⟨.paper _ (.inr rfl) _ _ m (CO m hm) x _ rfl rfl,λh hh=>Ni ["day","by","matters","stretch","whom","of","changes"] [by_] cL rfl (aS (kO ⟨day,hd⟩) (aS (uI (z7.nm _ hb)) (aS (zb m hm) (aS (zc ⟨day,hd⟩ x hx) (aS J9 (aS (Nh ⟨n,hn⟩) (aS (P0 hc (z7.nm _ hp)) rfl))))))) H9 (by simpa using hb) (by simp only[all_cons,E6];rfl) hh,λh _=>⟨x,.non,_,_,_,_,m,_,.inr rfl,rfl,.inl rfl⟩,P1 Z9⟩
theorem E7 (h5:by_∈zs.take 5)(G:B5∈zs):Dw zs k day "named" [.int (day:Int),.str B5,.str by_] :=
 ⟨.named _ _ _,λh hh=>Ni ["day","office","person"] [by_] cL rfl (aS (kO ⟨day,hd⟩) (aS (zd (z7.nm _ G)) (aS (Bz (z7.nm _ hb)) rfl))) (by simp[CH,UD,Tu,UE]) (by simpa using hb) rfl hh,λh=>now h Z9,λ_=>⟨_,_,_,_,rfl,h5⟩⟩
theorem P4 (G:B5∈zs){o:Str}(M:o∈zs):Dw zs k day "heir" [.int (day:Int),.str by_,.str o,.str B5] :=
 ⟨.heir _ _ _ _,λh hh=>Ni ["day","by","office","person"] [by_,B5] cL rfl (aS (kO ⟨day,hd⟩) (aS (uI (z7.nm _ hb)) (aS (zd (z7.nm _ M)) (aS (Bz (z7.nm _ G)) rfl)))) (by simp[CH,UD,Tu,UE,Wi]) (by simp[hb,G]) rfl hh,λh=>now h Z9,P1 Z9⟩
theorem JD (G:B5∈zs){o:Str}(M:o∈zs){s:Nat}(h1:day<=s)(h2:s<12):Dw zs k day "chosen" [.int (day:Int),.str by_,.str o,.str B5,.int (s:Int)]:=by
 refine⟨.chosen _ _ _ _ _,λh hh=>⟨⟨["day","by","office","person","since"],[by_,B5],cL,rfl,mu (aS (kO ⟨day,hd⟩) (aS (uI (z7.nm _ hb)) (aS (zd (z7.nm _ M)) (aS (Bz (z7.nm _ G)) (aS (J8 ⟨s,h2⟩) rfl))))),H9,N9,by simp[hb,G]⟩,N9,λd hd=>?_,.inr ⟨Z9,⟨day,_,rfl,hh,M9,λ_=>⟨_,_,_,s,rfl,M9⟩⟩,cL⟩⟩,λh=>now h Z9,P1 Z9⟩;simp  [mem_cons,not_mem_nil,or_false]at hd;rcases hd with rfl|rfl|rfl|rfl|rfl<;>exact⟨rfl,rfl⟩
end
theorem fJ {α:Type}(l:List α)(F:α->D){ρ:DL.Env}{fl fx:FE}{b:Bool}{a m:Int}(G:fl ρ=some (.lst (l.map F),b))(ex:fx ρ=sI a)(h0:0<m)(hm:m<=l.length):∃x∈l.take m.toNat,f2 bN fl (f2 cw fx (fI m)) ρ=some (F x,false):=by
 have h:=mod_lt (x:=a) h0;obtain⟨j,hj⟩:∃j:Nat,a % m=j:=⟨(a % m).toNat,M9⟩;have hl:j<l.length:=M9
 refine⟨l[j],List.mem_take_iff_getElem.mpr ⟨j,M9,rfl⟩,jh     G (hj ▸ im ex h0) ?_⟩;have:(l.map F)[j]? = some (F l[j]):=by simp_all
 simp[bK this]
theorem oR {zs:LS}(G:Nm7 zs)(j:Nat)(hj:j<7):∃z∈zs,∀ {ρ:DL.Env}{i:Nat},ρ[i]? = some (sL (zs.map .str))->cP i (j:Int) ρ=sS z:=by
 have hl:j<zs.length:=by rw[G.len];exact hj
 refine⟨zs[j],getElem_mem hl,λ{ρ i} h=>?_⟩;simp_all[bK]
def jT (r:D):Bool:=decide (kindOf r∈[("leave" : Str),"named"])
def Tv (zs:LS)(aa:LD):Prop:=(∀r∈aa,∃h kind ay,r=row h kind ay/\(kind = "leave" \/ kind = "named"->∃a b p l,ay=a::b::.str p::l/\p∈zs.take 5))/\∃r∈aa,jT r=true
theorem B1 {zs:LS}(o:Nm7 zs){aa:LD}(g:Tv zs aa)(hl:aa.length<=100)(c:Int):∃p∈zs.take 5,iH [.lst aa,.int c,.lst (zs.map .str)]=sS p:=by
 have n:∀r∈aa,jT r=true->∃h k a b p l,r=row h k (a::b::.str p::l)/\a7 2 r=p/\p∈zs.take 5:=λr M hi=>by
  obtain⟨h,k,ay,rfl,hp⟩:=g.1 r M;have:k∈[("leave" : Str),"named"]:=Ss hi;obtain⟨a,b,p,l,rfl,h5⟩:=hp (by simpa using this);exact⟨h,k,a,b,p,l,rfl,rfl,h5⟩
 have hc:=gd (fi:=bT (aj 0)) (nT:=1) (cap:=[]) (tg:=da 0) (c:=aY (f2 rF (f2 bN (cP 0 1) (fI 0)) (fA aM (af (fS "leave") (af (fS "named") ai))))) (fe:=f2 bN (cP 0 1) (fI 3))
  (ρ:=[sL aa,sI c,sL (zs.map .str),none]) aa (λr=>r) jT (λr=>.str (a7 2 r)) N9 M9 λr M=>by
   obtain⟨h,k,ay,e,_⟩:=g.1 r M;refine⟨_,rfl,dP (bL (.str k) (.tup [.str "leave",.str "named"]) ?_ (aI [.str "leave",.str "named"] rfl (bG _ N9)) ?_),λhi=>⟨false,?_⟩⟩
   .subst e;simp[cG,row,FF,Cy]
   .rw[show jT r=decide (k∈[("leave" : Str),"named"]) by subst e;rfl];exact ja _ [("leave" : Str),"named"]
   .obtain⟨h,k,a,b,p,l,rfl,e2,_⟩:=n r M hi;rw[e2];have h3:pW (D.str k::a::b::.str p::l) 3=some (.str p):=by have:=kx (xs:=D.str k::a::b::.str p::l) (j:=3) N9;simpa using this
    simp[cG,row,FF,h3]
 obtain⟨u,O,T⟩:=g.2;have q:0<(aa.filter jT).length:=List.length_pos_of_mem (mem_filter.mpr ⟨O,T⟩);have G:b8 ((aa.filter jT).map λr=>D.str (a7 2 r))=true:=bH λd hd=>by obtain⟨x,_,rfl⟩:=vO hd;rfl
 by_cases h5:0<c % 5
 .have m1:(0:Int)<((aa.filter jT).length:Nat):=M9
  obtain⟨x,hx,ex⟩:∃x∈aa.filter jT,f2 bN (aj 3) (f2 cw (f2 cu (aj 1) (fI 5)) (fA cH (fV 3 ai))) [sL aa,sI c,sL (zs.map .str),lT ((aa.filter jT).map λr=>.str (a7 2 r))]=some (.str (a7 2 x),false):=by
   obtain⟨j,hj⟩:∃j:Nat,c / 5 % ((aa.filter jT).length:Nat)=j:=⟨(c / 5 % ((aa.filter jT).length:Nat)).toNat,by have:=mod_lt (x:=c / 5) m1;lia⟩;have U:j<(aa.filter jT).length:=by have:=mod_lt (x:=c / 5) m1;lia
   refine⟨(aa.filter jT)[j],getElem_mem U,bL (.lst ((aa.filter jT).map λr=>.str (a7 2 r))) (.int j) rfl (hj ▸ bL (.int (c / 5)) (.int ((aa.filter jT).length:Nat)) (uG rfl V9 V9) (aI [.lst ((aa.filter jT).map λr=>.str (a7 2 r))] (bx rfl rfl) (by rw[gQ,vI])) (CL _ m1)) ?_⟩;have:((aa.filter jT).map λr=>D.str (a7 2 r))[j]? = some (.str (a7 2 (aa.filter jT)[j])):=by simp_all
   simp[bK this]
  obtain⟨f,s⟩:=vN hx;obtain⟨h,k,a,b,p,l,_,e2,i⟩:=n x f s;rw[e2]at ex;exact⟨p,i,au rfl (bV hc G (bD (dP (bL (.int (c % 5)) (.int 0) (im rfl V9) rfl S9)) (aw ex)))⟩
 .obtain⟨p,hp,t⟩:=fJ zs D.str (ρ:=[sL aa,sI c,sL (zs.map .str),lT ((aa.filter jT).map λr=>.str (a7 2 r))]) (fl:=aj 2) (fx:=f2 cu (aj 1) (fI 5)) (b:=false) (a:=c / 5) (m:=5) rfl (uG rfl V9 V9) V9 (by rw[o.len];decide);exact⟨p,hp,au rfl (bV hc G (a9 (dP (bL (.int (c % 5)) (.int 0) (im rfl V9) rfl S9)) (aw t)))⟩
noncomputable def mM:LS:=[("leave" : Str),"paper","like","copy","call"]
theorem XW:∀f∈([3,2,2,1,0]:LN),f<4:=V9
theorem XX:∀m∈([7,7,3,5,1,2]:LN),m∈MK:=V9
theorem P5 {zs:LS}{p:Str}(h:p∈zs):F9 Tq (.lst (zs.map .str)) (.str p)=sI (la zs p):=by
 show(ga _).bind _=_;rw[oH];show(if la zs p<zs.length then _ else _)=_;simp_all[la]
section
variable {zs:LS}(z7:Nm7 zs) {aa:LD}(g:Tv zs aa) (hl:aa.length<=14) (k day:Nat) (hd:day<10) (c:Int)
include z7 g hl hd
theorem Gm (word:Str)(hw:word∈mM):∃ay,nv [.lst aa,.str word,.int day,.int c,.lst (zs.map .str)]=sJ (.str word::ay)/\Dw zs k day word ay:=by
 obtain⟨p,O,r⟩:=B1 z7 g M9 c;have hp:p∈zs:=mem_of_mem_take O;obtain⟨m,hm,s⟩:=fJ ([7,7,3,5,1,2]:LN) (λm=>.int (m:Int)) (ρ:=[sL aa,sS word,sI day,sI c,sL (zs.map .str),sS p,none,none,none,none]) (fl:=fA bQ (af (fI 7) (af (fI 7) (af (fI 3) (af (fI 5) (af (fI 1) (af (fI 2) ai))))))) (fx:=f2 cu (aj 3) (fI 40)) (b:=true) (a:=c / 40) (m:=6) (aI [.int 7,.int 7,.int 3,.int 5,.int 1,.int 2] rfl (dh _ N9)) (uG rfl V9 V9) V9 V9;have hm:=XX m (mem_of_mem_take hm);obtain⟨x,hx,ex⟩:=fJ (Mm day) jR (ρ:=[sL aa,sS word,sI day,sI c,sL (zs.map .str),sS p,sI m,none,none,none])
  (fl:=fA bQ (af (fA aM (af (fI 0) (af (fC .non) ai))) (af (fA aM (af (fI 0) (af (fI 30) ai))) (af (fA aM (af (fI 1) (af (fI 20) ai))) (af (fA aM (fV 2 (af (f2 cO (aj 2) (fI 8)) ai))) (af (fA aM (af (f2 cO (aj 2) (fI 1)) (af (fC .non) ai))) (af (fA aM (af (fI 3) (af (fI 12) ai))) ai)))))))
  (fx:=f2 cu (aj 3) (fI 240)) (b:=true) (a:=c / 240) (m:=6) (aI ((Mm day).map jR) (bx (aI [.int 0,.non] rfl (bG _ N9)) (bx (aI [.int 0,.int 30] rfl (bG _ N9)) (bx (aI [.int 1,.int 20] rfl (bG _ N9)) (bx (aI [.int day,.int (day+8)] rfl (bG _ N9)) (bx (aI [.int (day+1),.non] rfl (bG _ N9)) (bx (aI [.int 3,.int 12] rfl (bG _ N9)) rfl)))))) (dh _ (by simp[Mm]))) (uG rfl V9 V9) V9 (by simp[Mm])
 have hx:x∈Mm day:=mem_of_mem_take hx;let E:OB->OB->DL.Env:=λa b=>[sL aa,sS word,sI day,sI c,sL (zs.map .str),sS p,sI m,some (jR x,false),a,b];have G:∀w,aY (f2 dz (aj 1) (fS w)) (E none none)=some (decide (word=w)):=λw=>dP (bL (.str word) (.str w) rfl rfl (Pw _ _));have num:∀(q:Int),0<q->q<1073741824->∃n:Nat,n<16/\∀a b,f2 cw (f2 cu (aj 3) (fI q)) (f2 cO (fA cH (fV 0 ai)) (fI 1)) (E a b)=sI n:=λq t u=>by
  have h:=mod_lt (x:=c / q) (m:=(aa.length:Int)+1) M9;refine⟨(c / q % ((aa.length:Int)+1)).toNat,M9,λa b=>?_⟩;rw[Int.toNat_of_nonneg h.1];exact bL (.int (c / q)) (.int (aa.length+1)) (uG rfl t u) (bL (.int aa.length) (.int 1) (aI [.lst aa] rfl gQ) rfl rfl) (CL _ M9)
 obtain⟨n,hn,en⟩:=num 1440 V9 V9;obtain⟨n4,U,e⟩:=num 4320 V9 V9;obtain⟨i,h0,v⟩:=oR z7 0 V9;obtain⟨l,h1,y⟩:=oR z7 1 V9;obtain⟨o,h2,e2⟩:=oR z7 2 V9;obtain⟨M,h3,z⟩:=oR z7 3 V9;have gz:∀ {T:FS}{d:D},T (E none none)=some (.rt d false)->a6 (aU 5 (fA iH (fV 0 (fV 3 (fV 4 ai))))) (a6 (aU 6 _) (a6 (aU 7 _) T)) [sL aa,sS word,sI day,sI c,sL (zs.map .str),none,none,none,none,none]=some (.rt d false):=λA=>
  gR (.str p) (aI [.lst aa,.int c,.lst (zs.map .str)] rfl r) rfl (gR (.int m) s rfl (gR (jR x) ex (lQ _) A))
 simp only[mM,mem_cons,not_mem_nil,or_false]at hw;rcases hw with rfl|rfl|rfl|rfl|rfl
 .obtain⟨q,hq,eq⟩:=fJ zs D.str (ρ:=E none none) (fl:=aj 4) (fx:=f2 cO (f2 cO (f2 (F9 Tq) (aj 4) (aj 5)) (fI 1)) (f2 cw (f2 cu (aj 3) (fI 1440)) (fI 4))) (b:=false) (a:=(la zs p:Int)+1+c / 1440 % 4) (m:=5) rfl
   (bL (.int ((la zs p:Int)+1)) (.int (c / 1440 % 4)) (bL (.int (la zs p)) (.int 1) (bL (.lst (zs.map .str)) (.str p) rfl rfl (P5 hp)) rfl rfl) (im (uG rfl V9 V9) V9) rfl) V9 (by rw[z7.len];decide)
  obtain⟨f,hf,B⟩:=fJ ([3,2,2,1,0]:LN) (λm=>.int (m:Int)) (ρ:=E (sS q) none) (fl:=fA bQ (af (fI 3) (af (fI 2) (af (fI 2) (af (fI 1) (af (fI 0) ai)))))) (fx:=f2 cu (aj 3) (fI 5760)) (b:=true) (a:=c / 5760) (m:=5) (aI [.int 3,.int 2,.int 2,.int 1,.int 0] rfl (dh _ N9)) (uG rfl V9 V9) V9 V9;exact⟨_,au rfl (gz (bD ((G "leave").trans Z9) (gR (.str q) eq rfl (aw (aI [.str "leave",.int day,.str p,.str q,.int m,jR x,.int f] (bx rfl (bx rfl (bx rfl (bx rfl (bx rfl (bx rfl (bx B rfl))))))) (bG _ N9)))))),Mo z7 hd hp hq hm hx (XW f (mem_of_mem_take hf))⟩
 .obtain⟨w,hw,C⟩:=fJ ([.non,.str i]:LD) id (ρ:=E none none) (fl:=fA bQ (af (fC .non) (af (cP 4 0) ai))) (fx:=f2 cu (aj 3) (fI 1440)) (b:=true) (a:=c / 1440) (m:=2) (aI [.non,.str i] (bx rfl (bx (v rfl) rfl)) (dh _ N9)) (uG rfl V9 V9) V9 N9;have hw:w=.non\/w=.str i:=by grind
  exact⟨_,au rfl (gz (a9 ((G "leave").trans Z9) (bD ((G "paper").trans Z9) (aw (aI [.str "paper",.int day,.str p,.int m,jR x,w,.tup [.str l,.str o]] (bx rfl (bx rfl (bx rfl (bx rfl (bx rfl (bx C (bx (aI [.str l,.str o] (bx (y rfl) (bx (e2 rfl) rfl)) (bG _ N9)) rfl))))))) (bG _ N9)))))),Mp z7 hd hp h0 hw hm hx h1 h2⟩
 .have F:=mod_lt (x:=c / 1440) (m:=3) V9;obtain⟨j,hj⟩:∃j:Nat,c / 1440 % 3=j:=⟨(c / 1440 % 3).toNat,M9⟩;exact⟨_,au rfl (gz (a9 ((G "leave").trans Z9) (a9 ((G "paper").trans Z9) (bD ((G "like").trans Z9) (gR (.tup [.tup [.int j,.str M]]) (aI [.tup [.int j,.str M]] (bx (aI [.int j,.str M] (bx (hj ▸ im (uG rfl V9 V9) V9) (bx (z rfl) rfl)) (bG _ N9)) rfl) (bG _ N9)) rfl (aw (aI [.str "like",.int day,.str p,.int m,jR x,.non,.int n4,.tup [.tup [.int j,.str M]]] (bx rfl (bx rfl (bx rfl (bx rfl (bx rfl (bx rfl (bx (e _ _) (bx rfl rfl)))))))) (bG _ N9)))))))),P2 z7 hd hp hm hx U M9 h3⟩
 .exact⟨_,au rfl (gz (a9 ((G "leave").trans Z9) (a9 ((G "paper").trans Z9) (a9 ((G "like").trans Z9) (aw (aI [.str "copy",.int day,.str p,.int n] (bx rfl (bx rfl (bx rfl (bx (en _ _) rfl)))) (bG _ N9))))))),JB z7 hd hp hn "copy" (.inl rfl)⟩
 .exact⟨_,au rfl (gz (a9 ((G "leave").trans Z9) (a9 ((G "paper").trans Z9) (a9 ((G "like").trans Z9) (aw (aI [.str "call",.int day,.str p,.int n] (bx rfl (bx rfl (bx rfl (bx (en _ _) rfl)))) (bG _ N9))))))),JB z7 hd hp hn "call" (.inr rfl)⟩
end
noncomputable def JF:LS:=[("leave" : Str),"leave","leave","paper","paper","paper","copy","copy","like","call","call","chosen"]
noncomputable def W8:LS:=[("heir" : Str),"death","lost","found","named","leave","paper","leave"]
theorem XY:∀f∈([0,0,0,1,5]:LN),f<=5:=V9
theorem XZ:∀w∈JF++W8,w∈mM\/w = "chosen" \/ w = "heir" \/ w = "named" \/ (w = "death" \/ w = "lost" \/ w = "found"):=Z9
theorem rb:∀w∈[("chosen" : Str),"heir","named","death","lost","found"],w∉mM:=Z9
def Rg (zs:LS)(k:Nat)(r:D):Prop:=∃(h:Int)(kind:Str)(ay:LD)(day:Nat),r=row h kind ay/\(day:Int)<=h/\h<=9999/\(day:Int)<=9998/\Dw zs k day kind ay
section
variable {zs:LS}(z7:Nm7 zs) {aa:LD}(g:Tv zs aa) (hl:aa.length<=14) (k:Nat) (c:Int)
include z7 g hl
theorem P6:∃r,yK [.lst aa,.int c,.lst (zs.map .str)]=some (r,false)/\Rg zs k r/\aZ r=false:=by
 obtain⟨w,hw,B⟩:=fJ (JF++W8) D.str (ρ:=[sL aa,sI c,sL (zs.map .str),lT ((JF++W8).map .str),none,none,none,none,none]) (fl:=aj 3) (fx:=aj 1) (b:=false) (a:=c) (m:=20) rfl rfl V9 V9;have hw:=XZ w (mem_of_mem_take hw);have J:=mod_lt (x:=c / 20) (m:=3) V9;obtain⟨day,U⟩:∃d:Nat,(aa.length:Int) / 2+c / 20 % 3=d:=⟨((aa.length:Int) / 2+c / 20 % 3).toNat,M9⟩;have hd:day<10:=M9
 have ed:f2 cO (f2 cu (fA cH (fV 0 ai)) (fI 2)) (f2 cw (f2 cu (aj 1) (fI 20)) (fI 3)) [sL aa,sI c,sL (zs.map .str),lT ((JF++W8).map .str),sS w,none,none,none,none]=sI day :=
  U ▸ bL (.int ((aa.length:Int) / 2)) (.int (c / 20 % 3)) (uG (aI [.lst aa] rfl gQ) V9 V9) (im (uG rfl V9 V9) V9) rfl
 obtain⟨l,t,C⟩:=fJ ([0,0,0,1,5]:LN) (λm=>.int (m:Int)) (ρ:=[sL aa,sI c,sL (zs.map .str),lT ((JF++W8).map .str),sS w,sI day,none,none,none]) (fl:=fA bQ (af (fI 0) (af (fI 0) (af (fI 0) (af (fI 1) (af (fI 5) ai)))))) (fx:=f2 cu (aj 1) (fI 60)) (b:=true) (a:=c / 60) (m:=5) (aI [.int 0,.int 0,.int 0,.int 1,.int 5] rfl (dh _ N9)) (uG rfl V9 V9) V9 V9;have t:=XY l (mem_of_mem_take t);let E:OB->DL.Env:=λa=>[sL aa,sI c,sL (zs.map .str),lT ((JF++W8).map .str),sS w,sI day,sI ((day:Int)+l),sI (c / 300),a];have gz:∀ {T:FS}{d:D},T (E none)=some (.rt d false)->a6 (aU 3 (fA bQ (af (fS "leave") (af (fS "leave") (af (fS "leave") (af (fS "paper") (af (fS "paper") (af (fS "paper") (af (fS "copy") (af (fS "copy") (af (fS "like") (af (fS "call") (af (fS "call") (af (fS "chosen") ai))))))))))))))
   (a6 (aU 3 (f2 cO (aj 3) (fA bQ (af (fS "heir") (af (fS "death") (af (fS "lost") (af (fS "found") (af (fS "named") (af (fS "leave") (af (fS "paper") (af (fS "leave") ai))))))))))) (a6 (aU 4 _) (a6 (aU 5 _) (a6 (aU 6 (f2 cO (aj 5) _)) (a6 (aU 7 (f2 cu (aj 1) (fI 300))) T))))) [sL aa,sI c,sL (zs.map .str),none,none,none,none,none,none]=some (.rt d false):=λF=>
  bV (ds:=JF.map .str) (aI (JF.map .str) rfl (dh _ (by simp[JF]))) rfl (bV (ds:=(JF++W8).map .str) (jh (x:=.lst (JF.map .str)) (y:=.lst (W8.map .str)) (b1:=false) (b2:=true) rfl (aI (W8.map .str) rfl (dh _ (by simp[W8]))) rfl) rfl
   (gR (.str w) B rfl (gR (.int day) ed rfl (gR (.int ((day:Int)+l)) (bL (.int day) (.int l) rfl C rfl) rfl (gR (.int (c / 300)) (uG rfl V9 V9) rfl F)))))
 have G:∀ {kind:Str}{ay:LD},Dw zs k day kind ay->decide (kind = "root")=false->∃r,r=row ((day:Int)+l) kind ay/\Rg zs k r/\aZ r=false:=λ{kind ay} d h=>⟨_,rfl,⟨_,kind,ay,day,rfl,M9,M9,M9,d⟩,h⟩;have ti:aY (f2 rF (aj 4) (fA aM (af (fS "leave") (af (fS "paper") (af (fS "like") (af (fS "copy") (af (fS "call") ai))))))) (E none)=some (decide (w∈mM)):=dP (bL (.str w) (.tup (mM.map .str)) rfl (aI (mM.map .str) rfl (bG _ (by simp[mM]))) (ja w mM));have M:∀v,aY (f2 dz (aj 4) (fS v)) (E none)=some (decide (w=v)):=λv=>dP (bL (.str w) (.str v) rfl rfl (Pw _ _));obtain⟨q,hq,eq⟩:=fJ zs D.str (ρ:=E none) (fl:=aj 2) (fx:=f2 cu (aj 7) (fI 40)) (b:=false) (a:=c / 300 / 40) (m:=5) rfl (uG rfl V9 V9) V9 (by rw[z7.len];decide);have O:q∈zs:=mem_of_mem_take hq;obtain⟨f,h5,u⟩:=oR z7 5 V9;obtain⟨p,j,z⟩:=B1 z7 g M9 (c / 300);have hp:p∈zs:=mem_of_mem_take j;rcases hw with hw|rfl|rfl|rfl|hw
 .obtain⟨ay,es,H⟩:=Gm z7 g hl k day hd (c / 300) w hw;have h:decide (w = "root")=false:=(by decide +kernel:∀w∈mM,decide (w = "root")=false) w hw;obtain⟨r,rfl,h1,h2⟩:=G H h;rw[zh hw]at ti;exact⟨_,au rfl (gz (bD ti (aw (aI [.int ((day:Int)+l),.tup (.str w::ay)] (bx rfl (bx (aI [.lst aa,.str w,.int day,.int (c / 300),.lst (zs.map .str)] rfl es) rfl)) (bG _ N9))))),h1,h2⟩
 .obtain⟨s,hs⟩:∃s:Nat,(day:Int)+c / 300 / 200 % 3=s:=⟨((day:Int)+c / 300 / 200 % 3).toNat,M9⟩;have A:day<=s/\s<12:=M9
  obtain⟨r,rfl,h1,h2⟩:=G (JD z7 hd hp O h5 A.1 A.2) Z9;rw[So (rb _ Z9)]at ti;exact⟨_,au rfl (gz (a9 ti (bD ((M "chosen").trans Z9) (gR (.str p) (aI [.lst aa,.int (c / 300),.lst (zs.map .str)] rfl z) rfl (aw (aI [.int ((day:Int)+l),.tup [.str "chosen",.int day,.str p,.str f,.str q,.int s]] (bx rfl (bx (aI [.str "chosen",.int day,.str p,.str f,.str q,.int s] (bx rfl (bx rfl (bx rfl (bx (u rfl) (bx eq (bx (hs ▸ bL (.int day) (.int (c / 300 / 200 % 3)) rfl (im (uG rfl V9 V9) V9) rfl) rfl)))))) (bG _ N9)) rfl)) (bG _ N9))))))),h1,h2⟩
 .obtain⟨r,rfl,h1,h2⟩:=G (P4 z7 hd hp O h5) Z9;rw[So (rb _ Z9)]at ti;exact⟨_,au rfl (gz (a9 ti (a9 ((M "chosen").trans Z9) (bD ((M "heir").trans Z9) (aw (aI [.int ((day:Int)+l),.tup [.str "heir",.int day,.str p,.str f,.str q]] (bx rfl (bx (aI [.str "heir",.int day,.str p,.str f,.str q] (bx rfl (bx rfl (bx (aI [.lst aa,.int (c / 300),.lst (zs.map .str)] rfl z) (bx (u rfl) (bx eq rfl))))) (bG _ N9)) rfl)) (bG _ N9))))))),h1,h2⟩
 .obtain⟨o,n,I⟩:∃o∈zs,f2 bN (aj 2) (f2 cO (fI 5) (f2 cw (f2 cu (aj 7) (fI 5)) (fI 2))) (E none)=sS o:=by
   have m2:=mod_lt (x:=c / 300 / 5) (m:=2) V9;obtain⟨o,n,e⟩:=Pd (zs:=zs) (i:=5+c / 300 / 5 % 2) M9 (by rw[z7.len];lia);exact⟨o,n,bL (.lst (zs.map .str)) (.int (5+c / 300 / 5 % 2)) rfl (bL (.int 5) (.int (c / 300 / 5 % 2)) rfl (im (uG rfl V9 V9) V9) rfl) e⟩
  obtain⟨r,rfl,h1,h2⟩:=G (E7 z7 hd O hq n) Z9;rw[So (rb _ Z9)]at ti;exact⟨_,au rfl (gz (a9 ti (a9 ((M "chosen").trans Z9) (a9 ((M "heir").trans Z9) (bD ((M "named").trans Z9) (aw (aI [.int ((day:Int)+l),.tup [.str "named",.int day,.str o,.str q]] (bx rfl (bx (aI [.str "named",.int day,.str o,.str q] (bx rfl (bx rfl (bx I (bx eq rfl)))) (bG _ N9)) rfl)) (bG _ N9)))))))),h1,h2⟩
 .have hn:∀v∈[("chosen" : Str),"heir","named"],decide (w=v)=false:=by rcases hw with rfl|rfl|rfl<;>decide +kernel
  obtain⟨r,rfl,h1,h2⟩:=G (Mn z7 hd O w hw) (by rcases hw with rfl|rfl|rfl<;>decide +kernel)
  rw[So (rb w (by grind))]at ti;exact⟨_,au rfl (gz (a9 ti (a9 ((M "chosen").trans (by rw[hn _ N9])) (a9 ((M "heir").trans (by rw[hn _ N9])) (a9 ((M "named").trans (by rw[hn _ N9])) (aw (aI [.int ((day:Int)+l),.tup [.str w,.int day,.str q]] (bx rfl (bx (aI [.str w,.int day,.str q] (bx rfl (bx rfl (bx eq rfl))) (bG _ N9)) rfl)) (bG _ N9)))))))),h1,h2⟩
end
structure GR (zs:List Str)(aa:List D):Prop where
 at_:∀(j:Nat) r,aa[j]? = some r->Rg zs j r
 off:(ju aa).Nodup
 gv:∃r∈aa,jT r=true
theorem GR.snoc {zs:LS}{aa:LD}(g:GR zs aa){r:D}(G:Rg zs aa.length r)(M:(ju (aa++[r])).Nodup):GR zs (aa++[r]):=by
 refine⟨λj q h=>?_,M,g.gv.imp λq h=>⟨mem_append_left _ h.1,h.2⟩⟩;by_cases hj:j<aa.length
 .rw[getElem?_append_left hj]at h;exact g.at_ j q h
 .rw[getElem?_append_right M9]at h;obtain⟨h1,h2⟩:=vV h;have:j=aa.length:=by rw[length_singleton]at h1;lia
  subst this;simp  [Nat.sub_self]at h2;subst h2;exact G
theorem GR.mem {zs:LS}{aa:LD}(g:GR zs aa){r:D}(h:r∈aa):∃k,Rg zs k r:=by
 obtain⟨j,hj⟩:=mem_iff_getElem?.mp h;exact⟨j,g.at_ j r hj⟩
theorem Rg.k {zs:LS}{k:Nat}{r:D}(g:Rg zs k r):cy r:=by
 obtain⟨h,kind,ay,day,rfl,_,_,_,d⟩:=g;exact⟨h,kind,ay,rfl,d.dd⟩
theorem Rg.w {zs:LS}{k:Nat}{r:D}(g:Rg zs k r):CA r:=by
 obtain⟨h,kind,ay,day,rfl,_,_,_,d⟩:=g;exact d.w h
theorem GR.flat {zs:LS}{aa:LD}(g:GR zs aa):b8 aa=true:=bH λd hd=>by
 obtain⟨j,G⟩:=g.mem hd;exact G.k.flat
theorem GR.gvs {zs:LS}{aa:LD}(g:GR zs aa):Tv zs aa:=⟨λr G=>by
 obtain⟨j,h,kind,ay,day,rfl,_,_,_,d⟩:=g.mem G;exact⟨h,kind,ay,rfl,d.p⟩,g.gv⟩
theorem Ya:j8 ("rule" : Str)=false:=Z9
noncomputable def RL:LS:=[("open" : Str),"first","last"]
theorem Sd:∀r∈RL,PV "rule" (.str r)=true:=Z9
theorem Nj:∀m∈[7,255,3],PV "matters" (.int ((m:Nat):Int))=true/\m∈MR:=Z9
theorem JG {zs:LS}(G:Nm7 zs)(k:Nat):off zs k∈zs:=by
 have:(if k=0 then 5 else 6)<zs.length:=by rw[G.len];split<;>decide
 simp_all[off]
theorem uJ {zs:LS}(G:Nm7 zs)(j:Nat)(hj:j<7){ρ:DL.Env}{i:Nat}(h:ρ[i]? = some (sL (zs.map .str))\/ρ[i]? = some (lT (zs.map .str))):cP i (j:Int) ρ=sS (zs.getD j ""):=by
 have hl:j<zs.length:=by rw[G.len];exact hj
 have:(zs.map D.str)[j]? = some (.str (zs.getD j "")):=by simp_all
 rcases h with h|h<;>simp[h,bK this]
theorem JH:decide (("named" : Str)∈[("leave" : Str),"named"])=true:=Z9
theorem Se (h:Int)(l:LD):aZ (row h "root" l)=true:=zh rfl
theorem Sf (h:Int)(l:LD):aZ (row h "named" l)=false:=H9
theorem JJ {zs:LS}(G:Nm7 zs){k:Nat}(hk:k=0\/k=2){m f:Nat}(hm:m∈[7,255,3])(hf:f<4){rl:Str}(M:rl∈RL):Dw zs k 0 "root" [.str (off zs k),.int m,.int f,.str rl] :=
 ⟨.root _ _ m (Nj m hm).2 _,λh _=>⟨⟨["office","matters","further","rule"],[],cL,rfl,mu (aS (zd (G.nm _ (JG G k))) (aS (Nj m hm).1 (aS (J7 ⟨f,hf⟩) (aS (Sd _ M) rfl)))),by simp[CH,UD,XU,XV,Ya],V9,N9⟩,N9,λd hd=>by
  simp only[mem_cons,not_mem_nil,or_false]at hd;rcases hd with rfl|rfl|rfl|rfl<;>exact⟨rfl,rfl⟩,.inl ⟨rfl,hk,_,rfl⟩⟩,λh=>now h Z9,P1 Z9⟩
theorem Sg {zs:LS}(G:Nm7 zs){m:Nat}(hm:m∈[7,255,3]){rl:Str}(M:rl∈RL){p:Str}(hp:p∈zs.take 5):GR zs [row 0 "root" [.str (off zs 0),.int m,.int (3:Nat),.str rl],row 0 "named" [.int (0:Nat),.str (off zs 0),.str p]]:=by
 refine⟨λj r h=>?_,by simp[ju,Se,Sf],_,mZ _ (mX ..),JH⟩;match j,h with
 |0,h=>cases h;exact⟨0,_,_,0,rfl,V9,V9,V9,JJ G (.inl rfl) hm V9 M⟩
 |1,h=>cases h;exact⟨0,_,_,0,rfl,V9,V9,V9,E7 G V9 (mem_of_mem_take hp) hp (JG G 0)⟩
theorem UG {zs:LS}(G:Nm7 zs){m:Nat}(hm:m∈[7,255,3]){rl:Str}(M:rl∈RL){p:Str}(hp:p∈zs.take 5):GR zs [row 0 "root" [.str (off zs 0),.int m,.int (3:Nat),.str rl],row 0 "named" [.int (0:Nat),.str (off zs 0),.str p],row 1 "root" [.str (off zs 2),.int (7:Nat),.int (1:Nat),.str "open"]]:=by
 refine(Sg G hm M hp).snoc  ⟨1,_,_,0,rfl,V9,V9,V9,JJ G (.inr rfl) V9 V9 Z9⟩ ?_;have h:=Ju G;have:ju ([row 0 "root" [.str (off zs 0),.int m,.int (3:Nat),.str rl],row 0 "named" [.int (0:Nat),.str (off zs 0),.str p]]++[row 1 "root" [.str (off zs 2),.int (7:Nat),.int (1:Nat),.str "open"]])=[off zs 0,off zs 2]:=by
  rfl
 simp_all
theorem Mq {ns:LI}(hf:OR ns){zs:LS}(O:Nm7 zs){aa:LD}(g:GR zs aa)(hl:aa.length<=14)(G:OB){i:Nat}(hi:i<=90):∃r,pF [sL (ns.map .int),G,lT (zs.map .str),lT aa,sI i]=some (.nx [sL (ns.map .int),G,lT (zs.map .str),lT (aa++[r]),sI i])/\GR zs (aa++[r]):=by
 obtain⟨c,T⟩:=ra hf (3+i) M9;obtain⟨r,er,M,U⟩:=P6 O g.gvs hl _ _;have hn:(ju (aa++[r])).Nodup:=by rw[FN,U,if_neg V9,uQ];exact g.off
 refine⟨r,ie   rfl (aI _ (bx rfl (bx (bL _ _ (aI _ (bx rfl (bx (bL _ _ rfl rfl rfl) rfl)) T) (bL _ _ rfl rfl rfl) (CL _ V9)) (bx rfl rfl))) er) M.k.flat (bO M9),g.snoc M hn⟩
theorem Mr {ns:LI}(F:ns.length<=63)(hf:OR ns):∃zs aa,tN [.lst (ns.map .int)]=lT aa/\Nm7 zs/\GR zs aa/\aa.length<=15:=by
 obtain⟨c,y⟩:=ra hf 1 V9;obtain⟨w,l⟩:=ra hf 0 V9;obtain⟨zs,z,G⟩:=J6 w;obtain⟨m,hm,A⟩:=fJ ([7,255,3]:LN) (λm=>.int (m:Int)) (ρ:=[sL (ns.map .int),sI c,lT (zs.map .str),none,none]) (fl:=fA bQ (af (fI 7) (af (fI 255) (af (fI 3) ai)))) (fx:=aj 1) (b:=true) (a:=c) (m:=3) (aI [.int 7,.int 255,.int 3] rfl (dh _ N9)) rfl V9 V9;obtain⟨rl,f,er⟩:=fJ RL D.str (ρ:=[sL (ns.map .int),sI c,lT (zs.map .str),none,none]) (fl:=fA bQ (af (fS "open") (af (fS "first") (af (fS "last") ai)))) (fx:=f2 cu (aj 1) (fI 3)) (b:=true) (a:=c / 3) (m:=3) (aI (RL.map .str) rfl (dh _ (by simp[RL]))) (uG rfl V9 V9) V9 V9;have hm:=mem_of_mem_take hm;have f:=mem_of_mem_take f;have hp:zs.getD 0 "" ∈ zs.take 5:=by
  have h0:0<zs.length:=by rw[G.len];decide
  rw[vF,vU h0];exact List.mem_take_iff_getElem.mpr ⟨0,by rw[G.len];decide,rfl⟩
 have O:∀ρ:DL.Env,ρ[2]? = some (lT (zs.map .str))->cP 2 5 ρ=sS (off zs 0):=λρ h=>uJ G 5 V9 (.inr h);have o:∀ρ:DL.Env,ρ[2]? = some (lT (zs.map .str))->cP 2 6 ρ=sS (off zs 2):=λρ h=>uJ G 6 V9 (.inr h);have p:∀ρ:DL.Env,ρ[2]? = some (lT (zs.map .str))->cP 2 0 ρ=sS (zs.getD 0 ""):=λρ h=>uJ G 0 V9 (.inr h);obtain⟨R,hR⟩:∃R,R=row 0 "root" [.str (off zs 0),.int m,.int (3:Nat),.str rl]:=⟨_,rfl⟩;obtain⟨N,k⟩:∃N,N=row 0 "named" [.int (0:Nat),.str (off zs 0),.str (zs.getD 0 "")]:=⟨_,rfl⟩;have B:bC R=true:=by subst hR;rfl
 have C:bC N=true:=by subst k;rfl
 obtain⟨aa,E,H,e2⟩:∃aa,GR zs aa/\aa.length<=3/\∀ {T:FS}{res:Option Res},T [sL (ns.map .int),sI c,lT (zs.map .str),lT aa,none]=res ->
   a6 (dc (aY (f2 dz (f2 cw (f2 cu (aj 1) (fI 9)) (fI 2)) (fI 1))) (jW 3 (fA aM (af (fI 1) (af (fA aM (af (fS "root") (af (cP 2 6) (af (fI 7) (af (fI 1) (af (fS "open") ai)))))) ai)))) aV) T [sL (ns.map .int),sI c,lT (zs.map .str),lT [R,N],none]=res:=by
  have t:aY (f2 dz (f2 cw (f2 cu (aj 1) (fI 9)) (fI 2)) (fI 1)) [sL (ns.map .int),sI c,lT (zs.map .str),lT [R,N],none]=some (decide (c / 9 % 2=1)):=dP (bL (.int (c / 9 % 2)) (.int 1) (im (uG rfl V9 V9) V9) rfl N9);by_cases h:c / 9 % 2=1
  .rw[zh h]at t;refine⟨[R,N,row 1 "root" [.str (off zs 2),.int (7:Nat),.int (1:Nat),.str "open"]],by subst hR;subst k;exact UG G hm f hp,N9,λs=>cR (pB t (ie (d:=row 1 "root" [.str (off zs 2),.int (7:Nat),.int (1:Nat),.str "open"]) (b:=false) rfl (aI [.int 1,.tup [.str "root",.str (off zs 2),.int 7,.int 1,.str "open"]] (bx rfl (bx (aI [.str "root",.str (off zs 2),.int 7,.int 1,.str "open"] (bx rfl (bx (o _ rfl) rfl)) (bG _ N9)) rfl)) (bG _ N9)) rfl (bO N9))) s⟩
  .rw[So h]at t;exact⟨[R,N],by subst hR;subst k;exact Sg G hm f hp,N9,λs=>cR (lb t rfl) s⟩
 obtain⟨n,hn,en⟩:∃n:Nat,n<=12/\f2 bN _ (f2 cw (f2 cu (aj 1) (fI 18)) (fI 2)) [sL (ns.map .int),sI c,lT (zs.map .str),lT aa,none]=sI n:=by
  obtain⟨q,hq⟩:∃q:Nat,(if 5+(ns.length:Int) / 3<12 then 5+(ns.length:Int) / 3 else 12)=q:=⟨(if 5+(ns.length:Int) / 3<12 then 5+(ns.length:Int) / 3 else 12).toNat,by split<;>lia⟩
  have U:q<=12:=by split at hq<;>lia
  obtain⟨x,hx,ex⟩:=fJ ([q,12]:LN) (λm=>.int (m:Int)) (ρ:=[sL (ns.map .int),sI c,lT (zs.map .str),lT aa,none]) (fl:=fA bQ (af (fA Ow (af (fI 12) (af (f2 cO (fI 5) (f2 cu (fA cH (fV 0 ai)) (fI 3))) ai))) (af (fI 12) ai))) (fx:=f2 cu (aj 1) (fI 18)) (b:=true) (a:=c / 18) (m:=2)
   (aI [.int q,.int 12] (bx (aI [.int 12,.int (5+(ns.length:Int) / 3)] (bx rfl (bx (bL (.int 5) (.int ((ns.length:Int) / 3)) rfl (uG (aI [.lst (ns.map .int)] rfl (by rw[gQ,vI])) V9 V9) rfl) rfl)) (by rw[<-hq];rfl)) rfl) (dh _ N9)) (uG rfl V9 V9) V9 N9
  have hx:=mem_of_mem_take hx;refine⟨x,?_,ex⟩;rcases vP hx with rfl|hx
  .exact U
  .grind
 obtain⟨ρ',e,M,u,rfl,v,hs⟩:=l5 (tg:=da 4) (g:=pF) n (λi ρ=>∃(M:LD)(u:OB),ρ=[sL (ns.map .int),sI c,lT (zs.map .str),lT M,u]/\GR zs M/\M.length<=3+i)
  [sL (ns.map .int),sI c,lT (zs.map .str),lT aa,none] ⟨aa,none,rfl,E,M9⟩ (by
   rintro i ρ hi ⟨M,u,rfl,v,hs⟩;obtain⟨r,e,g'⟩:=Mq hf G v M9 (sI c) (i:=i) M9;exact⟨_,_,rfl,.inl e,M++[r],_,rfl,g',by rw[uZ,length_singleton];lia⟩)
 refine⟨zs,M,au rfl (gR (.int c) (aI [.lst (ns.map .int),.int 1] rfl y) rfl (bV (ds:=zs.map .str) (aI [.int w] (bx (aI [.lst (ns.map .int),.int 0] rfl l) rfl) z) (eK _) (bV (ds:=[R]) ?_ (by simp[B]) (cR (ie (ds:=[R]) (d:=N) (b:=false) rfl ?_ C (bO N9)) (e2 (cR (l7 (gb (j:=n) (b:=false) en M9) e) (jm rfl))))))),G,v,M9⟩
 .refine aI [R] (bx (aI [.int 0,.tup [.str "root",.str (off zs 0),.int m,.int 3,.str rl]] (bx rfl (bx (aI [.str "root",.str (off zs 0),.int m,.int 3,.str rl] (bx rfl (bx (O _ rfl) (bx A (bx rfl (bx er rfl))))) (bG _ N9)) rfl)) ((bG _ N9).trans (by subst hR;rfl))) rfl) (dh _ N9)
 .exact aI [.int 0,.tup [.str "named",.int 0,.str (off zs 0),.str (zs.getD 0 "")]] (bx rfl (bx (aI [.str "named",.int 0,.str (off zs 0),.str (zs.getD 0 "")] (bx rfl (bx rfl (bx (O _ rfl) (bx (p _ rfl) rfl)))) (bG _ N9)) rfl)) ((bG _ N9).trans (by subst k;rfl))
section
variable {aa:LD}(g:∀r∈aa,cy r) (gw:∀r∈aa,CA r) (hl:aa.length<=30) (ae:Int) (hn:((bX (aq aa ae)).map (a7 0)).Nodup) (ho:(dA (aq aa ae)).length<=60)
include g gw hl hn ho
theorem JL (day:Int)(n:Nat):kH [.tup aa,.int ae,.int day,.int n,.non]=sO (decide (n∈oP aa ae day)):=by
 have G:aY (f2 _ (aj 3) (fA _ (fV 0 (fV 1 (fV 2 ai))))) [sF _,sF _,sF _,sF _,sF .non]=some _:=cU  (jh    rfl (aI _ rfl (CC g gw hl _ hn ho day)) (CB n _));cases hv:decide (n∈oP _ _ _) with
 |false=>exact au rfl (bD (G.trans (by rw[hv];rfl)) (aw rfl))
 |true=>exact au rfl (a9 (G.trans (by rw[hv];rfl)) (aw ((sM  (q:=true)  (bL _ _ rfl rfl rfl) λz=>by cases z).trans rfl)))
end
noncomputable def JM (h:Int):D->D
 |.tup [_,d]=>.tup [.int h,d]
 |r=>r
noncomputable def nE (hh:Nat->Int)(aa:LD):LD:=aa.zipIdx.map λx=>JM (hh x.2) x.1
theorem ze (hh:Nat->Int)(aa:LD):(nE hh aa).length=aa.length:=by simp[nE]
theorem zf {hh:Nat->Int}{aa:LD}{n:Nat}{q:D}(h:(nE hh aa)[n]? = some q):∃r,aa[n]? = some r/\q=JM (hh n) r:=by
 unfold nE at h;rw[vA,List.getElem?_zipIdx]at h;cases G:aa[n]? with
 |none=>rw[G]at h;cases h
 |some r=>rw[G]at h;simp at h;exact⟨r,rfl,h.symm⟩
theorem CP {zs:LS}{aa:LD}(g:GR zs aa)(hh:Nat->Int):(nE hh aa).map zz=aa.map zz:=by
 apply ext_getElem?;intro n;unfold nE;rw[vA,vA,vA,List.getElem?_zipIdx];cases G:aa[n]? with
 |none=>rfl
 |some r=>
  obtain⟨h,kind,ay,day,rfl,_⟩:=g.at_ n r G;rfl
section
variable {zs:LS}{aa:LD}(g:GR zs aa) (hh:Nat->Int)
include g
theorem rd {r:D}(h:r∈nE hh aa):cy r/\CA r:=by
 obtain⟨n,hn⟩:=mem_iff_getElem?.mp h;obtain⟨q,hq,rfl⟩:=zf hn;obtain⟨a,kind,ay,day,rfl,_,_,_,d⟩:=g.at_ n q hq;exact⟨⟨hh n,kind,ay,rfl,d.dd⟩,d.w _⟩
theorem Ms:ju (nE hh aa)=ju aa:=by
 have:∀R ,ju _=ju R:=λR=>by
  unfold ju;rw[filter_map,uP];rw[show aZ ∘ zz=aZ from funext Pq,show a7 0 ∘ zz=a7 0 from funext (Jk 0)]
 rw[<-this,CP g,this]
theorem xL (hl:aa.length<=15)(ae day:Int)(n:Nat):kH [.tup (nE hh aa),.int ae,.int day,.int n,.non]=sO (decide (n∈oP (nE hh aa) ae day)):=by
 have G:(nE hh aa).length<=30:=by rw[ze];lia
 refine JL (λr h=>(rd g hh h).1) (λr h=>(rd g hh h).2) G _ ?_ ?_ _ n
 .exact List.Nodup.sublist (Ji _ _) (by rw[Ms g];exact g.off)
 .unfold dA;rw[(bp _ _).length_eq];grind[cM]
theorem Mt (G:Nm7 zs)(hl:aa.length<=15)(h1:∀n,9998<=hh n/\hh n<=9999):xJ zs (nE hh aa)/\b8 (nE hh aa)=true:=by
 refine⟨⟨⟨by rw[ze];lia,G⟩,λj r h=>?_⟩,bH λd hd=>(rd g hh hd).1.flat⟩;obtain⟨q,hq,rfl⟩:=zf h;obtain⟨a,kind,ay,day,rfl,_,_,M,d⟩:=g.at_ j q hq;have:=h1 j;exact⟨hh j,kind,ay,rfl,M9,M9,d.g _ M9⟩
theorem xM (ae:Int)(n:Nat)(r:D)(h:(nE hh aa)[n]? = some r):decide (aJ r<=ae)=decide (hh n<=ae):=by
 obtain⟨q,hq,rfl⟩:=zf h;obtain⟨a,kind,ay,day,rfl,_⟩:=g.at_ n q hq;rfl
theorem P7 (G:Nm7 zs)(hl:aa.length<=15)(d:D)(hd:d=.lst aa\/d=.tup aa):cF [d]=some (.tup aa,false):=by
 refine qF  ⟨⟨M9,G⟩,λj r h=>?_⟩ g.flat d hd;obtain⟨a,kind,ay,day,rfl,h1,h2,M,d⟩:=g.at_ j r h;exact⟨a,kind,ay,rfl,M9,h2,d.g _ h1⟩
end
def hz (x:D×Nat):D×Nat:=(.tup [.non,.tup [.non,.int (aJ x.1)]],x.2)
def lf (aa:LD):KL:=dR (λx=>cC (kA (hz x))) aa.zipIdx
def oS (aa:LD):LI:=(lf aa).map λx=>(x.2:Int)
theorem oV (aa:LD):(lf aa).length=aa.length:=by unfold lf;rw[(bp _ _).length_eq,length_zipIdx]
theorem uK (aa:LD):aa.zipIdx.map (λx=>D.int (x.2:Int))=(List.range' 0 aa.length).map λ(i:Nat)=>.int (i:Int):=by
 rw[<-List.zipIdx_map_snd 0 _,uP];rfl
theorem zg (aa:LD)(hl:aa.length<=60):fH [.lst (aa.zipIdx.map λx=>.tup [.int (aJ x.1),.int x.2])]=lT ((lf aa).map λx=>.tup [.int (aJ x.1),.int x.2]):=by
 have:=Gb (aa.zipIdx.map hz) (by simp_all);rw[iI,uP,uP]at this;exact this
theorem Gn {aa:LD}(g:∀r∈aa,cy r)(hl:aa.length<=60):nq [.tup aa]=lT ((oS aa).map .int):=by
 have hm:∀ρ:DL.Env,ρ[0]? = some (sJ aa)->kn (qM [0] (fA aM (af (f2 bN (f2 bN (aj 1) (aj 0)) (fI 0)) (fV 0 ai))) ρ) (aa.zipIdx.map λx=>.int x.2)=some _:=λρ h0=>
  hJ _ λx hx=>by
   have ha:=bK (mem_zipIdx_iff_getElem?.mp hx);obtain⟨h,k,ay,e,_⟩:=g x.1 (fst_mem_of_mem_zipIdx hx);show(fA aM _ _).map _=_;rw[aI [.int (aJ x.1),.int x.2] (bx (by rw[e]at ha |-;simp[cG,h0,ha,row,Cy,aJ]) rfl) (bG _ N9)];rfl
 have hk:ee (aa.zipIdx.map λx=>D.tup [.int (aJ x.1),.int x.2])=some (aa.zipIdx.map λx=>kA (hz x)):=gf _ λx _=>rfl;have M:(aa.zipIdx.map (·.2)).Nodup:=by simp_all[List.nodup_range']
 have G:(aa.zipIdx.map λx=>kA (hz x)).length<64/\dj (aa.zipIdx.map λx=>kA (hz x))=true/\c9 (aa.zipIdx.map λx=>kA (hz x))=true/\((aa.zipIdx.map λx=>kA (hz x)).map cC).Nodup:=by
  refine⟨S9,?_,?_,?_⟩
  .have:=oE (aa.zipIdx.map hz);rw[uP]at this;exact this
  .unfold c9;rw[Bool.or_eq_true];left;simp[all_eq_true,kA]
  .rw[uP];exact List.Pairwise.map _ (λa b h e=>h (C2 (a:=hz a) (b:=hz b) e)) (pairwise_map.mp M)
 refine au rfl (aw ?_);have O:fA cH (fV 0 ai) [sJ aa]=sI aa.length:=aI [.tup aa] rfl rfl;show((fA cH (fV 0 ai) [sJ aa]).bind _)=_;rw[O];simp only[vJ];rw[if_pos ⟨M9,M9⟩];have en:qh (aa.length:Int).toNat=aa.zipIdx.map λx=>.int x.2:=by rw[Int.toNat_natCast,uK];rfl
 rw[en,hm _ rfl];simp only[vJ];rw[hk];simp only[vJ];rw[if_pos G];unfold gZ oS lf;rw[zip_map',iI,uP,uP];rfl
theorem E8 {aa:LD}{n:Nat}(h:n<aa.length):(n:Int)∈oS aa:=by
 refine uS ⟨(aa[n],n),(bp _ _).mem_iff.mpr (mem_zipIdx_iff_getElem?.mpr (vU h)),rfl⟩
def Sh (aa:LD)(n:Nat):Int:=(la (oS aa) (n:Int):Nat)
theorem P8 {α:Type}[DecidableEq α]{l:List α}{b:α}(h:b∈l):la l b<l.length:=List.findIdx_lt_length.mpr ⟨b,h,zh rfl⟩
theorem xN:∀l:LI,kT (l.map .int)=some l
 |[]=>rfl
 |a::l=>by simp[kT,xN l]
theorem JN {aa:LD}(g:∀r∈aa,cy r)(hl:aa.length<=60):yJ [.tup aa,.lst ((oS aa).map .int)]=sJ (nE (Sh aa) aa):=by
 have hc:=iQ (fi:=rO (aj 0)) (nT:=2) (cap:=[1]) (tg:=wu [0,1]) (fe:=fA aM (af (f2 (F9 U2) (aj 2) (aj 0)) (af (cP 1 1) ai))) (ρ:=[sJ aa,sL ((oS aa).map .int)]) aa.zipIdx (λx=>.tup [.int x.2,x.1]) (λx=>JM _ x.1)
  (by simp[tS]) S9 λx hx=>by
   obtain⟨h,k,ay,e,_⟩:=g x.1 (fst_mem_of_mem_zipIdx hx);have hn :=(vV (mem_zipIdx_iff_getElem?.mp hx)).1;refine⟨_,rfl,false,aI [.int (Sh aa x.2),.tup (.str k::ay)] (bx (bL (.lst ((oS aa).map .int)) (.int x.2) (by simp[cG]) (by simp[cG]) ?_) (bx (by rw[e];simp[cG,row,FF]) rfl)) ?_⟩
   .show(kT _).bind _=_;rw[xN];exact if_pos (P8 (E8 hn))
   .rw[e];exact bG _ N9
 refine au rfl (aw (aI _ (aN (b:=true) hc rfl) ?_));rfl
theorem JP {α:Type}[DecidableEq α]:∀ {l:List α}{b:α}(i:Nat),b∈l->(la l b<=i↔b∈l.take (i+1))
 |a::l,b,i,h=>by
  unfold la;rw[List.findIdx_cons];by_cases e:a=b
  .simp[e]
  .have hb :=(vP h).resolve_left λz=>e z.symm;rw[So e];cases i with
   |zero=>simp[Ne.symm e]
   |succ i=>
    have:=JP i hb;simp_all[la,Ne.symm]
noncomputable def JQ (st:LD×Bool)(m:Nat)(b:Bool):LD×Bool:=(if(b != st.2)=true then st.1++[.tup [.int m,.bl b]]else st.1,b)
def sT (aa:LD)(B:Nat->Bool):Nat->LD×Bool
 |0=>([],false)
 |i+1=>JQ (sT aa B i) ((lf aa).getD i (.non,0)).2 (B i)
theorem E9 (aa:LD)(B:Nat->Bool):∀i,(sT aa B i).1.length<=i/\∀d∈(sT aa B i).1,∃(m:Nat)(b:Bool),d=.tup [.int m,.bl b]
 |0=>⟨vT _,λ_ h=>nomatch h⟩
 |i+1=>by
  obtain⟨h1,h2⟩:=E9 aa B i;show(JQ _ _ _).1.length<=_/\∀d∈(JQ _ _ _).1,_;unfold JQ;split
  .grind
  .exact⟨le_succ_of_le h1,h2⟩
theorem EA (aa:LD){B C:Nat->Bool}:∀(i:Nat),(∀j,j<i->B j=C j)->sT aa B i=sT aa C i
 |0,_=>rfl
 |i+1,h=>by
  show JQ _ _ _=JQ _ _ _;rw[EA _ i λj hj=>h j M9,h i M9]
theorem Si (a b:Bool):wt (.bl a) (.bl b)=sO (a != b):=by cases a<;>cases b<;>rfl
theorem EB {ρ:DL.Env}{it io ib ih:Nat}{st:LD×Bool}{m:Nat}{b:Bool}(hl:st.1.length<=100)(G:ρ[it]? = some (lT st.1))(e2:ρ[ib]? = some (sO b))(M:ρ[ih]? = some (sO st.2))(O:ρ[io]? = some (sI m))(T:it≠ib):
  a6 (dc (aY (f2 wt (aj ib) (aj ih))) (jW it (fA aM (fV io (fV ib ai)))) aV) (aU ih (aj ib)) ρ=some (.nx ((ρ.set it (lT (JQ st m b).1)).set ih (sO b))):=by
 have t:aY (f2 _ (aj ib) (aj ih)) ρ=some _:=dP (bL (.bl b) (.bl st.2) (by simp[e2]) (by simp[M]) (Si _ _));unfold JQ;cases h:b != st.2 with
 |true=>
  rw[h]at t;refine cR (pB t (ie    G (aI [.int m,.bl b] (by simp[O,e2]) (bG _ N9)) rfl (bO M9))) ?_;simp_all
 |false=>
  rw[h]at t;rw[if_neg V9];have hs:ρ.set it (lT st.1)=ρ:=by
   apply ext_getElem?;intro j;rw[List.getElem?_set];split
   .grind
   .rfl
  rw[hs];exact cR (lb t rfl) (sK  (b:=false) (by simp[e2]) rfl)
def hB (aa:LD)(day:Int)(n i:Nat):Bool:=decide (n∈oP (nE (Sh aa) aa) (i:Int) day)
section
variable {zs:LS}{aa:LD}(g:GR zs aa) (hl:aa.length<=15) (day:Int) (n:Nat)
include g hl
theorem CQ:mo [.tup aa,.int day,.int n]=lT (sT aa (hB aa day n) aa.length).1:=by
 have U:∀r∈aa,cy r:=λr h=>by obtain⟨j,a⟩:=g.mem h;exact a.k
 obtain⟨P,M⟩:∃P,P=nE (Sh aa) aa:=⟨_,rfl⟩;have c:bC (.tup P)=true:=by
  subst M;exact bH λd hd=>(rd g _ hd).1.flat
 have ed:rN ((oS aa).map .int)=(lf aa).zipIdx.map λy=>.tup [.int y.2,.int y.1.2]:=by
  simp_all[oS,tS,List.zipIdx_map]
 obtain⟨ρ',e,O,T,G,rfl⟩:=fB (tg:=wu [7,8]) (g:=nu) (λi ρ=>∃O T G:OB,ρ=[sJ aa,sI day,sI n,sL ((oS aa).map .int),sJ P,lT (sT aa (hB aa day n) i).1,sO (sT aa (hB aa day n) i).2,O,T,G])
  ((lf aa).zipIdx.map λy=>.tup [.int y.2,.int y.1.2]) _ ⟨none,none,none,rfl⟩ (by
   rintro i d ρ hd ⟨O,T,G,rfl⟩;rw[vA,List.getElem?_zipIdx]at hd;cases hx:(lf aa)[i]? with
   |none=>rw[hx]at hd;cases hd
   |some x=>
    rw[hx]at hd;simp only[Option.map_some,Nat.zero_add,Option.some.injEq]at hd;subst hd;have hi:i<aa.length:=by have:=(vV hx).1;rw[oV]at this;exact this
    have p:=(E9 aa (hB aa day n) i).1;have f:Qo kH (fV 4 (fV 7 (fV 1 (fV 2 ai)))) [sJ aa,sI day,sI n,sL ((oS aa).map .int),sJ P,lT (sT aa (hB aa day n) i).1,sO (sT aa (hB aa day n) i).2,sI i,sI x.2,G]=sO (hB aa day n i):=by
     subst M;exact xL g _ hl i day n
    have l:((lf aa).getD i (.non,0)).2=x.2:=by simp_all
    refine⟨_,_,rfl,.inl (gR (.bl (hB aa day n i)) f rfl (EB (it:=5) (io:=8) (ib:=9) (ih:=6)  (m:=x.2) (b:=hB aa day n i) M9 rfl rfl rfl rfl V9)),sI i,sI x.2,sO (hB aa day n i),?_⟩;show _=[_,_,_,_,_,lT (JQ _ _ _).1,_,_,_,_];rw[l];rfl)
 have hz:((lf aa).zipIdx.map λy=>D.tup [.int y.2,.int y.1.2]).length=aa.length:=by simp_all[oV]
 rw[hz]at e;have o:O7 [3] (my (rO (aj 3)) (wu [7,8]) nu) [sJ aa,sI day,sI n,lT ((oS aa).map .int),sJ P,lT [],sO false,none,none,none]=_:=i6  (by rw[<-ed];rfl) e;exact au rfl (bV  (aI [.tup aa] rfl (Gn U M9)) (A9 _) (gR (.tup P) (aI _ rfl ((JN U M9).trans (by rw[M]))) c (bV (ds:=[]) (aI [] rfl (dh _ N9)) rfl (gR (.bl false) rfl rfl (cR o (jm rfl))))))
end
def ji (aa:LD)(i:Nat):LN:=((lf aa).map (·.2)).take i
def jj (aa:LD)(i m:Nat):Int:=if m∈ji aa i then 9998 else 9999
theorem Sj (aa:LD)(i m:Nat):9998<=jj aa i m/\jj aa i m<=9999:=by unfold jj;split<;>lia
def dB (aa:LD)(day:Int)(n i:Nat):Bool:=decide (n∈oP (nE (jj aa (i+1)) aa) 9998 day)
theorem Mu (n:Nat)(S:LN):rF (.int n) (.lst (S.map λ(m:Nat)=>.int (m:Int)))=sO (decide (n∈S)):=by
 have G:(S.map λ(n:Nat)=>D.int (n:Int)).all jk=true:=by
  simp
 simp only[rF,iu,vJ];rw[if_pos ⟨rfl,G⟩,Bj,yX]
section
variable {zs:LS}{aa:LD}(g:GR zs aa) (hl:aa.length<=15) (day:Int) (n:Nat)
include g hl
theorem Go (i:Nat):hB aa day n i=dB aa day n i:=by
 refine congrArg (λl=>decide (n∈l)) (Ge (λm=>decide (m∈ji aa (i+1))) ((CP g _).trans (CP g _).symm) (λm r h=>?_) (λm r h=>?_) _)
 .obtain⟨q,hq,_⟩:=zf h;have hm :=(vV hq).1;rw[xM g _ _ m r h];have:=JP i (E8 hm);unfold Sh;have e:((m:Int)∈(oS aa).take (i+1))↔m∈ji aa (i+1):=by
   unfold oS ji;rw[<-map_take,<-map_take];grind
  simp_all
 .rw[xM g _ _ m r h];unfold jj;split<;>simp_all
noncomputable abbrev eW (aa:LD)(day:Int)(n:Nat)(S:LN)(now:Bool)(G:LD)(T U a b M O:OB):DL.Env:=[sL aa,sI day,sI n,lT (S.map λ(m:Nat)=>.int (m:Int)),sO now,lT G,T,U,a,b,M,O]
theorem JR (i:Nat)(now:Bool)(M:LD)(a c l U O:OB):∃d G,jx (da 9) tO (ia 0 aa.length) (eW aa day n (ji aa i) now M a c (lT []) l U O)=some (.nx (eW aa day n (ji aa i) now M a c (lT (nE (jj aa i) aa)) d G O)):=by
 have o:∀j r,aa[j]? = some r->(nE (jj aa i) aa).take (j+1)=(nE (jj aa i) aa).take j++[JM (jj aa i j) r]:=λj r f=>by
  simp_all[take_add_one,nE]
 obtain⟨ρ',e,d,G,rfl⟩:=l5 (tg:=da 9) (g:=tO) aa.length (λj ρ=>∃d G,ρ=eW aa day n (ji aa i) now M a c (lT ((nE (jj aa i) aa).take j)) d G O)
  (eW aa day n (ji aa i) now M a c (lT []) l U O) ⟨l,U,rfl⟩ (by
   rintro j ρ hj ⟨d,G,rfl⟩;have f :=vU hj;obtain⟨h,k,ay,dd,er,_,_,_,m⟩:=g.at_ j _ f;have ha:=bK f;have fl :=by have:=m.dd.flat;simpa using this
   have ed:f2 bN (f2 bN (aj 0) (aj 9)) (fI 1) (eW aa day n (ji aa i) now M a c (lT ((nE (jj aa i) aa).take j)) (sI j) G O)=sJ (.str k::ay):=by
    rw[er]at ha;simp[ha,row,FF]
   have t:aY (f2 rF (aj 9) (aj 3)) (eW aa day n (ji aa i) now M a c (lT ((nE (jj aa i) aa).take j)) (sI j) (sJ (.str k::ay)) O)=some _:=dP (bL (.int j) _ rfl rfl (Mu j _));have T:((nE (jj aa i) aa).take j).length<=100000:=by rw[length_take];lia
   have p:JM (jj aa i j) aa[j]=.tup [.int (jj aa i j),.tup (.str k::ay)]:=by rw[er];rfl
   refine⟨_,_,rfl,.inl (gR (.tup (.str k::ay)) ed fl ?_),sI j,sJ (.str k::ay),by rw[o j _ f,p]⟩;unfold jj;by_cases hm:j∈ji aa i
   .rw[zh hm]at t;rw[if_pos hm];exact pB t (ie  (b:=false) rfl (aI _ rfl (bG _ N9)) (by simpa using m.dd.flat) (bO T))
   .rw[So hm]at t;rw[if_neg hm];exact lb t (ie  (b:=false) rfl (aI _ rfl (bG _ N9)) (by simpa using m.dd.flat) (bO T)))
 rw[List.take_of_length_le (by rw[ze];exact vT _)]at e;exact⟨d,G,e⟩
theorem P9 (o:Nm7 zs):yL [.lst aa,.int day,.int n]=lT (sT aa (dB aa day n) aa.length).1:=by
 have hc:=iQ (fi:=fj (fA cH (fV 0 ai))) (nT:=1) (cap:=[0]) (tg:=da 0) (fe:=fA aM (af (f2 bN (f2 bN (aj 1) (aj 0)) (fI 0)) (fV 0 ai))) (ρ:=jV (eW aa day n [] false [] none none none none none none)) aa.zipIdx (λx=>.int x.2) (λx=>.tup [.int (aJ x.1),.int x.2])
  (by rw[gb (j:=aa.length) (b:=false) (aI [.lst aa] rfl gQ) M9,uK,pA,List.range_eq_range',uP];rfl) S9 λx hx=>by
   have ha:=bK (mem_zipIdx_iff_getElem?.mp hx);obtain⟨j,h,k,ay,dd,e,_⟩:=g.mem (fst_mem_of_mem_zipIdx hx);exact⟨_,rfl,false,aI [.int (aJ x.1),.int x.2] (bx (by rw[e]at ha |-;simp[cG,jV,ha,row,Cy,aJ]) rfl) (bG _ N9)⟩
 obtain⟨ρ',e,a,c,f,U,O,G,rfl⟩:=fB (tg:=wu [6,7]) (g:=tP) (λi ρ=>∃a c f U O G,ρ=eW aa day n (ji aa i) (sT aa (dB aa day n) i).2 (sT aa (dB aa day n) i).1 a c f U O G)
  ((lf aa).map λx=>.tup [.int (aJ x.1),.int x.2]) (eW aa day n [] false [] none none none none none none) ⟨none,none,none,none,none,none,rfl⟩ (by
   rintro i d ρ hd ⟨a,c,f,U,O,G,rfl⟩;rw[vA]at hd;obtain⟨x,hx,rfl⟩:=oY hd;have hi:i<aa.length:=by have:=(vV hx).1;rw[oV]at this;exact this
   have u:=(E9 aa (dB aa day n) i).1;have hf:ji aa (i+1)=ji aa i++[x.2]:=by
    unfold ji;rw[take_add_one,vA,hx];rfl
   have p:(ji aa i).length<=100000:=by unfold ji;rw[length_take];lia
   obtain⟨T,M,ei⟩:=JR g hl day n (i+1) (sT aa (dB aa day n) i).2 (sT aa (dB aa day n) i).1 (sI (aJ x.1)) (sI x.2) U O G;have l:=Mt g (jj aa (i+1)) o hl (Sj aa (i+1));have q:∀T M G,Qo kH (af (fA cF (fV 8 ai)) (af (fI 9998) (fV 1 (fV 2 ai)))) _=sO (dB aa day n i):=λT M G=>by
    have er:fA cF (fV 8 ai) (eW aa day n (ji aa (i+1)) (sT aa (dB aa day n) i).2 (sT aa (dB aa day n) i).1 (sI (aJ x.1)) (sI x.2) (lT (nE (jj aa (i+1)) aa)) T M G)=sJ (nE (jj aa (i+1)) aa):=aI [.lst (nE (jj aa (i+1)) aa)] rfl (qF l.1 l.2 _ (.inl rfl));have r:af (fA cF (fV 8 ai)) (af (fI 9998) (fV 1 (fV 2 ai))) _=some [.tup (nE (jj aa (i+1)) aa),.int 9998,.int day,.int n]:=bx er rfl;unfold Qo;rw[r];exact xL g _ hl 9998 day n
   have s:((lf aa).getD i (.non,0)).2=x.2:=by rw[vF,hx];rfl
   refine⟨_,_,rfl,.inl (cR (ie (ds:=(ji aa i).map λ(m:Nat)=>.int (m:Int)) (d:=.int x.2) (b:=false) rfl rfl rfl (bO (by rw[vI];exact p))) (bV (ds:=[]) (aI [] rfl (dh _ N9)) rfl (cR  ?_ (gR (.bl (dB aa day n i)) (q T M G) rfl (EB (it:=5) (io:=7) (ib:=11) (ih:=4) (st:=sT aa (dB aa day n) i) (m:=x.2) (b:=dB aa day n i) M9 rfl rfl rfl rfl V9))))),sI (aJ x.1),sI x.2,lT (nE (jj aa (i+1)) aa),T,M,sO (dB aa day n i),?_⟩
   .refine l7 (gb (j:=aa.length) (b:=false) (aI [.lst aa] rfl gQ) M9) ?_;have hm:lT ((ji aa (i+1)).map λ(m:Nat)=>.int (m:Int))=some (.lst (((ji aa i).map λ(m:Nat)=>.int (m:Int))++[.int x.2]),true):=by rw[hf,uW];rfl
    rw[<-hm];exact ei
   .show _=eW aa day n (ji aa (i+1)) (JQ _ ((lf aa).getD i (.non,0)).2 _).2 (JQ _ ((lf aa).getD i (.non,0)).2 _).1 _ _ _ _ _ _;rw[s];rfl)
 rw[show((lf aa).map λx=>D.tup [.int (aJ x.1),.int x.2]).length=aa.length by rw[vI,oV]]at e;have t:O7 [9] (my (bT (fA fH _)) (wu [6,7]) tP) (eW aa day n [] false [] none none none none none none)=_:=i6 (ds:=(lf aa).map λx=>.tup [.int (aJ x.1),.int x.2]) (by
  have es:fA fH (af _ ai) (jV (eW aa day n [] false [] none none none none none none))=_:=aI [.lst (aa.zipIdx.map λx=>.tup [.int (aJ x.1),.int x.2])] (aN (b:=true) hc rfl) (zg aa M9);show(fA fH _ (jV (eW aa day n [] false [] none none none none none none))).bind _=_;rw[es];rfl) e
 exact au rfl (bV (ds:=[]) (aI [] rfl (dh _ N9)) rfl (gR (.bl false) rfl rfl (bV (ds:=[]) (aI [] rfl (dh _ N9)) rfl (cR t (jm rfl)))))
end
theorem JU {L:LD}(hl:L.length<=100)(h:∀d∈L,∃(m:Nat)(b:Bool),d=.tup [.int m,.bl b]):oC [.lst L,.lst L]=sO true:=by
 have hp :=by
  show L.all (br 39)=true;rw[all_eq_true];intro d hd;obtain⟨m,b,rfl⟩:=h d hd;rfl
 obtain⟨ρ',e,v,rfl⟩:=fB (tg:=da 2) (g:=xm) (λ_ ρ=>∃v,ρ=[sL L,sL L,v]) L _ ⟨none,rfl⟩ (by
  rintro i d ρ hd ⟨v,rfl⟩;obtain⟨m,b,rfl⟩:=h d (vL hd);refine⟨_,_,rfl,.inl (lb ?_ rfl),some _,rfl⟩;rfl)
 exact au rfl (a9 (cD   (bJ (p:=true) (dP (aI _ rfl N9))) λ_=>dP (bL _ _ rfl rfl (Jg hp))) (cR (i6  rfl e) (aw rfl)))
section
variable {zs:LS}(z7:Nm7 zs) {aa:LD}(g:GR zs aa) (hl:aa.length<=15)
include z7 g hl
theorem JV {ns:LI}(hf:OR ns){S:LN}(t:0<S.length)(i:Nat)(hi:i<2)(f M O T U:OB):∃h k l o q,Cw [sL (ns.map .int),lT aa,sJ aa,lT (S.map λ(m:Nat)=>.int (m:Int)),sI i,f,M,O,T,U]=some (.nx [sL (ns.map .int),lT aa,sJ aa,lT (S.map λ(m:Nat)=>.int (m:Int)),sI i,h,k,l,o,q]):=by
 obtain⟨c,r⟩:=ra hf (20+i) M9;have m1:(0:Int)<(S.length:Nat):=M9
 obtain⟨n,en⟩:∃n:Nat,f2 bN (aj 3) (f2 cw (aj 5) (fA cH (fV 3 ai))) [sL (ns.map .int),lT aa,sJ aa,lT (S.map λ(m:Nat)=>.int (m:Int)),sI i,sI c,M,O,T,U]=sI n:=by
  have hm:=mod_lt (x:=c) m1;obtain⟨j,hj⟩:∃j:Nat,c % (S.length:Nat)=j:=⟨(c % (S.length:Nat)).toNat,M9⟩;have s:j<S.length:=M9
  refine⟨S[j],bL _ (.int j) rfl (hj ▸ bL (.int c) (.int (S.length:Nat)) rfl (aI _ (bx rfl rfl) (by rw[gQ,vI])) (CL _ m1)) ?_⟩;simp_all[bK]
 have G:=CQ g hl (c / 64 % 14) n;have ed:=P9 g hl (c / 64 % 14) n z7;rw[<-EA aa (B:=hB aa (c / 64 % 14) n) aa.length λj _=>Go g hl (c / 64 % 14) n j]at ed;obtain⟨h1,h2⟩:=E9 aa (hB aa (c / 64 % 14) n) aa.length;generalize (sT aa (hB aa (c / 64 % 14) n) aa.length).1=L at G ed h1 h2;have a:b8 L=true:=bH λd hd=>by obtain⟨m,b,rfl⟩:=h2 d hd;rfl
 have e:=JU M9 h2;refine⟨sI c,sI n,sI (c / 64 % 14),lT L,lT (L++[.tup [.int 99,.bl true]]),?_⟩;refine gR (.int c) (aI _ (bx rfl (bx (bL (.int 20) (.int i) rfl rfl rfl) rfl)) r) rfl ?_;refine gR (.int n) en rfl (gR (.int (c / 64 % 14)) (im (uG rfl V9 V9) V9) rfl ?_);refine bV (ds:=L) (aI _ rfl ed) a (bV (ds:=L) (aI _ rfl G) a ?_);refine a9 (bJ (p:=true) (dP (aI [.lst L,.lst L] rfl e))) (cR (ie (ds:=L) (d:=.tup [.int 99,.bl true]) (b:=false) rfl (aI [.int 99,.bl true] rfl (bG _ N9)) rfl (bO M9)) ?_);exact lb (bJ (p:=true) (dP (aI [.lst L,.lst L] (aN (b:=true) (aI _ rfl G) rfl) e))) rfl
end
theorem law_true (ns:LI)(l:ns.length<=63)(hf:OR ns):∃b,F_law [.lst (ns.map .int)]=some (.bl true,b):=by
 obtain⟨zs,aa,er,f,g,hl⟩:=Mr l hf;have hc:=gd (fi:=fj (fA cH (fV 1 ai))) (nT:=1) (cap:=[1]) (tg:=da 0) (c:=aY (f2 rF (f2 bN (f2 bN (f2 bN (aj 1) (aj 0)) (fI 1)) (fI 0)) (fA aM (af (fS "paper") (af (fS "like") (af (fS "copy") ai)))))) (fe:=aj 0)
  (ρ:=[sL (ns.map .int),lT aa,sJ aa,none,none,none,none,none,none,none]) aa.zipIdx (λx=>.int x.2) (λx=>decide (kindOf x.1∈cN)) (λx=>.int x.2)
  (by rw[gb (j:=aa.length) (b:=false) (aI [.lst aa] rfl gQ) M9,uK,pA,List.range_eq_range',uP];rfl) S9 λx hx=>by
   have ha:=bK (mem_zipIdx_iff_getElem?.mp hx);obtain⟨j,h,k,ay,dd,e,_⟩:=g.mem (fst_mem_of_mem_zipIdx hx);refine⟨_,rfl,dP (bL (.str k) (.tup (cN.map .str)) ?_ (aI (cN.map .str) rfl (bG _ (by simp[cN]))) ?_),λ_=>⟨false,by simp[cG]⟩⟩
   .rw[e]at ha;simp[cG,ha,row,FF,Cy]
   .rw[e];exact ja k cN
 let S:LN:=((aa.zipIdx.filter λx=>decide (kindOf x.1∈cN)).map (·.2))++[0];have n:f2 cO (bM (fj (fA cH (fV 1 ai))) 1 [1] (da 0) (aY (f2 rF (f2 bN (f2 bN (f2 bN (aj 1) (aj 0)) (fI 1)) (fI 0)) (fA aM (af (fS "paper") (af (fS "like") (af (fS "copy") ai)))))) (aj 0)) (fA bQ (af (fI 0) ai)) [sL (ns.map .int),lT aa,sJ aa,none,none,none,none,none,none,none]=lT (S.map λ(m:Nat)=>.int (m:Int)):=by
  refine jh  (y:=.lst [.int 0]) (b1:=true) (b2:=true) hc (aI [.int 0] rfl (dh _ N9)) ?_;have q:(aa.zipIdx.filter λx=>decide (kindOf x.1∈cN)).length<=15:=vR (vM _ _) (by rw[length_zipIdx];exact hl);refine(if_pos (dS ?_)).trans ?_
  .rw[vI,length_singleton];lia
  .simp only[S,uW,uP];rfl
 have o:b8 (S.map λ(m:Nat)=>D.int (m:Int))=true:=bH λd hd=>by obtain⟨x,_,rfl⟩:=vO hd;rfl
 obtain⟨ρ',e,a,G,M,O,T,U,rfl⟩:=l5 (tg:=da 4) (g:=Cw) 2 (λ_ ρ=>∃a G M O T U,ρ=[sL (ns.map .int),lT aa,sJ aa,lT (S.map λ(m:Nat)=>.int (m:Int)),a,G,M,O,T,U])
  _ ⟨none,none,none,none,none,none,rfl⟩ (by
   rintro i ρ hi ⟨a,G,M,O,T,U,rfl⟩;obtain⟨r,s,t,u,v,p⟩:=JV f g hl hf (S:=S) (by simp[S]) i hi G M O T U;exact⟨_,_,rfl,.inl p,_,_,_,_,_,_,rfl⟩)
 refine⟨false,au rfl (bV (ds:=aa) (aI [.lst (ns.map .int)] rfl er) g.flat (gR (.tup aa) (aI [.lst aa] (aN (b:=true) (aI [.lst aa] rfl ?_) rfl) (P7 g f hl _ (.inl rfl))) (by simp[g.flat]) (bV n o (cR (l7 (gb (j:=2) (b:=false) rfl V9) e) (aw rfl)))))⟩;rfl
end Lw
namespace Lw
open PySem PySem.Spec PyProof.Rows L2 DL
noncomputable def cZ (i:Nat):Stmt:=PySem.Challenge.pw_sealchain_k45_what_was_heard_changes.main.body.getD i (.Pass ⟨0,0,0,0⟩)
section
variable {X:Cx}{es SD:QD}{f:FE}{g:FA}{pos:Pos}{k:Nat}{a b:Expr}
theorem dY {c:Const}(h:JE X (.Constant c k pos) f)(G:JA X es g):JA X (.Constant c k pos::es) (af f g):=ak h G
theorem m4 (h:JE X (.Tuple SD k pos) f)(G:JA X es g):JA X (.Tuple SD k pos::es) (af f g):=ak h G
theorem Gp {o:Operator}(h:JE X (.BinOp a o b pos) f)(G:JA X es g):JA X (.BinOp a o b pos::es) (af f g):=ak h G
theorem kP (h:JE X (.Subscript a b pos) f)(G:JA X es g):JA X (.Subscript a b pos::es) (af f g):=ak h G
theorem Sk {G:List Keyword}(h:JE X (.Call a SD G pos) f)(M:JA X es g):JA X (.Call a SD G pos::es) (af f g):=ak h M
end
structure Tx (w:World)(K:Frag)(mg:Str->Option Value):Prop where
 hX:∃h,K.In h/\h.Ns mainGlobals mg
 d0:cB K "is_whole" (cZ 6)
 d1:cB K "is_day" (cZ 7)
 d2:cB K "is_stretch" (cZ 8)
 d3:cB K "is_matters" (cZ 12)
 d4:cB K "is_name" (cZ 22)
 d5:cB K "is_rule" (cZ 24)
 d6:cB K "is_piece" (cZ 23)
 d7:cB K "is_pieces" (cZ 25)
 d8:cB K "is_change" (cZ 26)
 d9:cB K "is_changes" (cZ 27)
 d10:cB K "is_part" (cZ 28)
 d11:cB K "is_deed" (cZ 29)
 d12:cB K "word_of" (cZ 32)
 d13:cB K "part_of" (cZ 33)
 d14:cB K "day_of" (cZ 34)
 d15:cB K "is_timely" (cZ 30)
 d16:cB K "is_row" (cZ 31)
 d17:cB K "root_offices" (cZ 39)
 d18:cB K "is_second_root" (cZ 40)
 d19:cB K "parts_in" (cZ 35)
 d20:cB K "people_in" (cZ 36)
 d21:cB K "count_people" (cZ 41)
 d22:cB K "is_refused" (cZ 42)
 d23:cB K "register_of" (cZ 43)
 d24:cB K "lies_in" (cZ 9)
 d25:cB K "is_known" (cZ 45)
 d26:cB K "is_paper" (cZ 74)
 d27:cB K "heard" (cZ 44)
 d28:cB K "rank" (cZ 46)
 d29:cB K "in_order" (cZ 48)
 d30:cB K "by_office" (cZ 60)
 d31:cB K "roots" (cZ 49)
 d32:cB K "tells" (cZ 52)
 d33:cB K "told_of" (cZ 53)
 d34:cB K "lives" (cZ 54)
 d35:cB K "has_seal" (cZ 55)
 d36:cB K "is_sound" (cZ 56)
 d37:cB K "is_alive" (cZ 58)
 d38:cB K "by_since" (cZ 59)
 d39:cB K "chief_of" (cZ 61)
 d40:cB K "holder_by" (cZ 62)
 d41:cB K "is_held_by" (cZ 63)
 d42:cB K "is_first_death" (cZ 64)
 d43:cB K "counts" (cZ 65)
 d44:cB K "new_claim" (cZ 66)
 d45:cB K "ended" (cZ 67)
 d46:cB K "after_choice" (cZ 68)
 d47:cB K "inherited" (cZ 69)
 d48:cB K "after_death" (cZ 70)
 d49:cB K "claims" (cZ 71)
 d50:cB K "is_leave" (cZ 75)
 d51:cB K "is_borne" (cZ 76)
 d52:cB K "covers" (cZ 13)
 d53:cB K "reach_bar" (cZ 80)
 d54:cB K "office_bar" (cZ 81)
 d55:cB K "office_bases" (cZ 84)
 d56:cB K "ends_within" (cZ 11)
 d57:cB K "is_within" (cZ 10)
 d58:cB K "is_ahead" (cZ 47)
 d59:cB K "leave_bar" (cZ 82)
 d60:cB K "leaves_to" (cZ 83)
 d61:cB K "leave_bases" (cZ 85)
 d62:cB K "copy_bases" (cZ 86)
 d63:cB K "bases_by" (cZ 87)
 d64:cB K "may_call" (cZ 77)
 d65:cB K "calls_in" (cZ 78)
 d66:cB K "calls_by" (cZ 79)
 d67:cB K "is_fit" (cZ 88)
 d68:cB K "links" (cZ 89)
 d69:cB K "bears" (cZ 90)
 d70:cB K "stood" (cZ 91)
 d71:cB K "standing" (cZ 92)
 d72:cB K "paper_behind" (cZ 94)
 d73:cB K "holding" (cZ 95)
 d74:cB K "whom_of" (cZ 96)
 d75:L1 K "holds" (cZ 97)
 d76:cB K "as_heard" (cZ 99)
 d77:cB K "paced" (cZ 100)
 d78:cB K "history" (cZ 101)
 d79:cB K "_law_cell" (cZ 103)
 d80:cB K "_law_names" (cZ 104)
 d81:cB K "_law_giver" (cZ 105)
 d82:cB K "_law_sealed" (cZ 106)
 d83:cB K "_law_row" (cZ 107)
 d84:cB K "_law_rows" (cZ 108)
 d85:cB K "_law_due" (cZ 109)
 d86:cB K "_law_told" (cZ 110)
 d87:cB K "law" (cZ 111)
 n0:mg "all" = none
 n1:mg "any" = none
 n2:mg "bool" = none
 n3:mg "dict" = none
 n4:mg "enumerate" = none
 n5:mg "int" = none
 n6:mg "isinstance" = none
 n7:mg "len" = none
 n8:mg "list" = none
 n9:mg "max" = none
 n10:mg "min" = none
 n11:mg "range" = none
 n12:mg "set" = none
 n13:mg "sorted" = none
 n14:mg "str" = none
 n15:mg "tuple" = none
 n16:mg "zip" = none
 k0:KC K mg "ALL_MATTERS" mF
 k1:KC K mg "LAST_DAY" sP
 k2:KC K mg "MOST_FURTHER" l8
 k3:KC K mg "MOST_LETTERS" lA
 k4:KC K mg "MOST_PEOPLE" mG
 k5:KC K mg "MOST_PIECES" gS
 k6:KC K mg "MOST_ROWS" jn
 k7:KC K mg "PAPERS" AA
 k8:KD w K mg "PARTS" ce
 k9:KC K mg "PERSON_PARTS" iR
 k10:KC K mg "RULES" DR
 k11:KC K mg "SEALINGS" iS
 l29:Au K "in_order"
 l35:Au K "has_seal"
 l42:Au K "is_first_death"
 l63:Au K "bases_by"
 l76:Au K "as_heard"
section
variable {P:Program}{w:World}{K:Frag}{mg:SV}{base:Heap}(T:Tx w K mg)
include T
theorem f0:Fn P w K mg base 1 "is_whole" fT:=T.d0.fq T.hX sQ ["thing","least","most"] 3 λnd G hu=>
  (aQ (dG (aA b9 T.n6 bo (aF 0 (ak (gV T.n5 R0) am))) (dG (Oq (aA b9 T.n6 bo (aF 0 (ak (gV T.n2 BU) am)))) (cI (r6 ir ir (ah 1) (ah 0) (ah 2))))))
theorem f1:Fn P w K mg base 2 "is_day" jL:=T.d1.fq T.hX AB ["thing"] 1 λnd G hu=>
  (aQ (bd (f0 T) G (aF 0 (cJ (ak (dq T.k1) am)))))
theorem f2:Fn P w K mg base 3 "is_stretch" oy:=T.d2.fq T.hX ou ["thing"] 1 λnd G hu=>
  (ao (bq (gA (dQ (bU (bj (aA b9 T.n6 bo (aF 0 (ak (gV T.n15 gO) am))))) (dQ (aB (vi hu) (aA cW T.n7 cQ (aF 0 am)) ax) (dF (bU (bj (bd (f1 T) G (ak (bf 0) am)))))))) cE)
   (aQ (rA (bS yj (bf 0) cS) (cI (dG (bd (f1 T) G (ak (bf 0) am)) (cI (bS rE (bf 0) (bf 0))))))))
theorem f3:Fn P w K mg base 2 "is_matters" o3:=T.d3.fq T.hX o0 ["thing"] 1 λnd G hu=>
  (aQ (bd (f0 T) G (aF 0 (cJ (ak (dq T.k0) am)))))
theorem f4:Fn P w K mg base 1 "is_name" iE:=T.d4.fq T.hX wR ["thing"] 1 λnd G hu=>
  (ao (bq (gA (dQ (bU (bj (aA b9 T.n6 bo (aF 0 (ak (gV T.n14 Hj) am))))) (dF (bU (z8 ir ir ax (aA cW T.n7 cQ (aF 0 am)) (dq T.k3)))))) cE)
   (aQ (aA zN T.n0 zM (ak (eZ ["sign"] (bR (ah 0)) fK (r6 ir ir a0 (ah 0) a0)) am))))
theorem f5:Fn P w K mg base 1 "is_rule" wT:=T.d5.fq T.hX wS ["thing"] 1 λnd G hu=>
  (aQ (dG (aA b9 T.n6 bo (aF 0 (ak (gV T.n14 Hj) am))) (cI (bS m8 (ah 0) (dq T.k10)))))
theorem f6:Fn P w K mg base 2 "is_piece" ky:=T.d6.fq T.hX sR ["thing"] 1 λnd G hu=>
  (aQ (a5 (f4 T) G))
theorem f7:Fn P w K mg base 3 "is_pieces" jo:=T.d7.fq T.hX qi ["thing"] 1 λnd G hu=>
  (ao (bq (gA (dQ (bU (bj (aA b9 T.n6 bo (aF 0 (ak (gV T.n15 gO) am))))) (dF (bU (z8 ir ir ax (aA cW T.n7 cQ (aF 0 am)) (dq T.k5)))))) cE)
   (aQ (aA zN T.n0 zM (ak (eZ ["piece"] (bR (ah 0)) fK (a5 (f6 T) G)) am))))
theorem f8:Fn P w K mg base 3 "is_change" jp:=T.d8.fq T.hX qj ["thing"] 1 λnd G hu=>
  (ao (bq (gA (dQ (bU (bj (aA b9 T.n6 bo (aF 0 (ak (gV T.n15 gO) am))))) (dF (aB (vi hu) (aA cW T.n7 cQ (aF 0 am)) ax)))) cE)
   (aQ (dG (bd (f0 T) G (ak (bf 0) (cJ (ak (aE MH (dq T.k5) ax) am)))) (cI (bd (f6 T) G (ak (bf 0) am))))))
theorem f9:Fn P w K mg base 4 "is_changes" kB:=T.d9.fq T.hX o4 ["thing","places"] 1 λnd G hu=>
  (ao (bq (gA (dQ (bU (bj (aA b9 T.n6 bo (aF 0 (ak (gV T.n15 gO) am))))) (dF (bU (bj (aA zN T.n0 zM (ak (eZ ["change"] (bR (ah 0)) fK (a5 (f8 T) G)) am))))))) cE)
   (ao (kU ["change"] nd (bR (ah 0)) fK (bf 0))
   (aQ (aA zN T.n0 zM (ak (eZ ["place","later"] (Hw T.n16 (ah 1) (jE (ah 1) (lZ ax) lY)) fK (bS rE (ah 0) (ah 1))) am)))))
theorem f10:Fn P w K mg base 5 "is_part" eQ:=T.d10.fq T.hX wU ["part","thing"] 2 λnd G hu=>
  (ao (bq (gA (dQ (aB (cx hu) (ah 0) a0) (dF (aB (cx hu) (ah 0) a0)))) (a5 (f1 T) G))
   (ao (bq (gA (dQ (aB (cx hu) (ah 0) a0) (dQ (aB (cx hu) (ah 0) a0) (dF (aB (cx hu) (ah 0) a0))))) (a5 (f4 T) G))
   (ao (bq (aB (cx hu) (ah 0) a0) (rA (bS yj (ah 1) cS) (cI (a5 (f4 T) G))))
   (ao (bq (aB (cx hu) (ah 0) a0) (a5 (f3 T) G))
   (ao (bq (aB (cx hu) (ah 0) a0) (a5 (f2 T) G))
   (ao (bq (aB (cx hu) (ah 0) a0) (bd (f0 T) G (aF 1 (cJ (ak (dq T.k2) am)))))
   (ao (bq (aB (cx hu) (ah 0) a0) (a5 (f5 T) G))
   (ao (bq (aB (cx hu) (ah 0) a0) (bd (f0 T) G (aF 1 (cJ (ak (aE MH (dq T.k6) ax) am)))))
   (ao (bq (aB (cx hu) (ah 0) a0) (a5 (f7 T) G))
   (aQ (a5 (f9 T) G)))))))))))
theorem f11:Fn P w K mg base 6 "is_deed" pC:=T.d11.fq T.hX wV ["thing"] 1 λnd G hu=>
  (ao (bq (gA (dQ (bU (bj (aA b9 T.n6 bo (aF 0 (ak (gV T.n15 gO) am))))) (dQ (aB (cx hu) (aA cW T.n7 cQ (aF 0 am)) ax) (dF (bU (bj (aA b9 T.n6 bo (ak (bf 0) (ak (gV T.n14 Hj) am))))))))) cE)
   (ao (bq (gA (dQ (Fs T.k8 (bf 0)) (dF (aB (vi hu) (aA cW T.n7 cQ (aF 0 am)) (aE ca ax (aA cW T.n7 cQ (ak (yp T.k8 (bf 0)) am))))))) cE)
   (aQ (aA zN T.n0 zM (ak (eZ ["part","value"] (Hw T.n16 (yp T.k8 (bf 0)) (jE (ah 0) (lZ ax) lY)) fK (a5 (f10 T) G)) am)))))
theorem uL:Fn P w K mg base 1 "word_of" aG:=T.d12.fq T.hX wW ["row"] 1 λnd G hu=>
  (aQ (aT (bf 0) ax))
theorem j9:Fn P w K mg base 2 "part_of" av:=T.d13.fq T.hX wZ ["row","part"] 2 λnd G hu=>
  (aQ (aT (bf 0) (aE ca ax (Lk T.k8 (a5 (uL T) G) (ah 1)))))
theorem B9:Fn P w K mg base 3 "day_of" aW:=T.d14.fq T.hX AD ["row"] 1 λnd G hu=>
  (ao (bq (aB (cx hu) (a5 (uL T) G) a0) cS)
   (aQ (a5 (j9 T) G)))
theorem Yb:Fn P w K mg base 4 "is_timely" lB:=T.d15.fq T.hX qk ["row","day"] 1 λnd G hu=>
  (ao (aD nd (a5 (B9 T) G))
   (ao (bq (aB yj (ah 1) cS) cE)
   (ao (bq (gA (jX (aB (cx hu) (a5 (uL T) G) a0) (iz (aB rE (a5 (j9 T) G) (ah 1))))) cE)
   (aQ (bS ir (ah 1) (bf 0))))))
theorem Yc:Fn P w K mg base 7 "is_row" sU:=T.d16.fq T.hX AE ["thing"] 1 λnd G hu=>
  (ao (bq (gA (dQ (bU (bj (aA b9 T.n6 bo (aF 0 (ak (gV T.n15 gO) am))))) (dF (aB (vi hu) (aA cW T.n7 cQ (aF 0 am)) ax)))) cE)
   (aQ (dG (bd (f1 T) G (ak (bf 0) am)) (dG (bd (f11 T) G (ak (bf 0) am)) (cI (a5 (Yb T) G))))))
theorem Yd:Fn P w K mg base 3 "root_offices" iT:=T.d17.fq T.hX lC ["rows"] 1 λnd G hu=>
  (aQ (eZ ["row"] (bR (ah 0)) (dE (aB (cx hu) (a5 (uL T) G) a0)) (a5 (j9 T) G)))
theorem Ye:Fn P w K mg base 4 "is_second_root" gF:=T.d18.fq T.hX jM ["ahead","row"] 2 λnd G hu=>
  (aQ (dG (bS (cx hu) (a5 (uL T) G) a0) (cI (bS m8 (a5 (j9 T) G) (a5 (Yd T) G)))))
theorem Yf:Fn P w K mg base 2 "parts_in" iU:=T.d19.fq T.hX sV ["row"] 1 λnd G hu=>
  (aQ (Cq rfl T.n8 T.n16 (yp T.k8 (a5 (uL T) G)) (jE (bf 0) (lZ ax) lY)))
theorem Yg:Fn P w K mg base 3 "people_in" jq:=T.d20.fq T.hX ql ["row","names"] 1 λnd G hu=>
  (ao (kU ["part","value"] nd (bR (a5 (Yf T) G)) (dE (gA (jX (aB m8 (ah 0) (dq T.k9)) (iz (aB qS (ah 1) cS))))) (ah 1))
   (aQ (mT rfl T.n13 T.n12 (ah 1))))
theorem Yh:Fn P w K mg base 4 "count_people" iV:=T.d21.fq T.hX lD ["rows","names","row"] 1 λnd G hu=>
  (ao (aD nd (bY am))
   (ao (oq (bR (ah 0)) (A2 2 nd) eD (be (OA (i:=1) (a5 (Yg T) G))))
   (aQ (Fp rfl T.n7 T.n12 (ah 1)))))
theorem Yi:Fn P w K mg base 8 "is_refused" kE:=T.d22.fq T.hX o5 ["book","place"] 2 λnd G hu=>
  (ao (bq (gA (dQ (aB Ru (ah 1) (dq T.k6)) (dF (bU (bj (bd (Yc T) G (ak (aT (ah 0) (ah 1)) am))))))) cE)
   (aQ (rA (bd (Ye T) G (ak (jE (ah 0) lY (lZ (ah 1))) (ak (aT (ah 0) (ah 1)) am))) (cI (bS BR (bd (Yh T) G (ak (jE (ah 0) lY (lZ (aE ca (ah 1) ax))) am)) (dq T.k4))))))
theorem Wj:Fn P w K mg base 9 "register_of" cF:=T.d23.fq T.hX mH ["rows","book","place"] 1 λnd G hu=>
  (ao (fZ (bU (bj (aA Fu T.n6 bo (aF 0 (ak (aP (ak (gV T.n8 rH) (ak (gV T.n15 gO) am))) am))))) (be zU) fM)
   (ao (aD nd (jB D0 T.n15 gO (aF 0 am)))
   (ao (A3 (jC T.n11 (aA cW T.n7 cQ (aF 1 am))) (A2 2 nd) eD (be (fZ (bj (a5 (Yi T) G)) (be zU) fM)))
   (be (gN 1)))))
theorem UH:Fn P w K mg base 1 "lies_in" iF:=T.d24.fq T.hX xa ["day","stretch"] 2 λnd G hu=>
  (aQ (dG (bS ir (bf 1) (ah 0)) (cI (rA (bS yj (bf 1) cS) (cI (bS rE (ah 0) (bf 1)))))))
theorem UI:Fn P w K mg base 1 "is_known" cK:=T.d25.fq T.hX sW ["book","known","number"] 3 λnd G hu=>
  (aQ (dG (r6 ir rE ax (ah 2) (aA cW T.n7 cQ (aF 0 am))) (cI (bS ir (aT (aT (ah 0) (ah 2)) ax) (ah 1)))))
theorem UJ:Fn P w K mg base 2 "is_paper" dI:=T.d26.fq T.hX sX ["book","known","number"] 3 λnd G hu=>
  (aQ (dG (a5 (UI T) G) (cI (bS m8 (bd (uL T) G (ak (aT (ah 0) (ah 2)) am)) (dq T.k7)))))
theorem Sl:Fn P w K mg base 1 "heard" dJ:=T.d27.fq T.hX DS ["book","known"] 2 λnd G hu=>
  (aQ (eZ ["number","row","known"] (yr T.n4 (ah 0)) (dE (aB ir (bf 1) (ah 2))) (ah 0)))
theorem Sm:Fn P w K mg base 4 "rank" fU:=T.d28.fq T.hX IF ["book","number"] 2 λnd G hu=>
  (aQ (aP (ak (bd (B9 T) G (ak (aT (ah 0) (ah 1)) am)) (aF 1 am))))
theorem Wk:Fn P w K mg base 8 "in_order" eF:=T.d29.fqL T.hX sY ["book","known","dated"] 2 λnd G hu M=>
  (ao (kU ["number","book"] nd (bR (a5 (Sl T) G)) (dE (aB qS (bd (B9 T) G (ak (aT (ah 1) (ah 0)) am)) cS)) (ah 0))
   (aQ (HR Cn T.n13 (ah 2) (sf (cap:=[0]) (N':=["number","book"]) Z9 T.l29 M rfl rfl (Aw Z9 rfl rfl rfl rfl rfl) rfl (.cons rfl rfl (Or.inl rfl) rfl (nQ Z9 rfl) (.nil rfl)) rfl G.in1.in1 (λ_ _ _ _=>rfl) λ_ _ _ _ G=>have hu:=zK G;(a5 (Sm T) G)))))
theorem Yj:Fn P w K mg base 1 "by_office" lF:=T.d30.fq T.hX qm ["claim"] 1 λnd G hu=>
  (aQ (aP (ak (bf 0) (ak (bf 0) (ak (bf 0) am)))))
theorem UK:Fn P w K mg base 3 "roots" gT:=T.d31.fq T.hX DT ["book","known","known_rows"] 2 λnd G hu=>
  (ao (kU ["number","book"] nd (bR (a5 (Sl T) G)) fK (aT (ah 1) (ah 0)))
   (aQ (jB (OM rfl) T.n3 OL (ak (eZ ["row"] (bR (ah 2)) (dE (aB (cx hu) (a5 (uL T) G) a0)) (aP (ak (a5 (j9 T) G) (aF 0 am)))) am))))
theorem Yk:Fn P w K mg base 4 "tells" qW:=T.d32.fq T.hX DU ["row","words","person","day"] 4 λnd G hu=>
  (aQ (dG (bS m8 (a5 (uL T) G) (ah 1)) (dG (bS (cx hu) (a5 (j9 T) G) (ah 2)) (cI (bS ir (a5 (B9 T) G) (ah 3))))))
theorem UL:Fn P w K mg base 5 "told_of" iG:=T.d33.fq T.hX xc ["book","known","words","person","day"] 5 λnd G hu=>
  (aQ (eZ ["number","words","person","day","book"] (bR (a5 (Sl T) G)) (dE (bj (bd (Yk T) G (ak (aT (ah 4) (ah 0)) (aF 1 (aF 2 (aF 3 am))))))) (ah 0)))
theorem Wl:Fn P w K mg base 6 "lives" o6:=T.d34.fq T.hX DV ["book","known","person","day"] 4 λnd G hu=>
  (aQ (bS (cx hu) (aA cW T.n7 cQ (ak (bd (UL T) G (aF 0 (aF 1 (ak (aP (ak a0 am)) (aF 2 (aF 3 am)))))) am)) ax))
theorem Yl:Fn P w K mg base 8 "has_seal" nj:=T.d35.fqL T.hX sZ ["book","known","person","day","told"] 4 λnd G hu M=>
  (ao (aD nd (bd (UL T) G (aF 0 (aF 1 (ak (aP (ak a0 (ak a0 am))) (aF 2 (aF 3 am)))))))
   (ao (bq (aB (cx hu) (aA cW T.n7 cQ (aF 4 am)) ax) cE)
   (aQ (bS (cx hu) (bd (uL T) G (ak (aT (ah 0) (Ay Wb T.n9 (ah 4) (sf (cap:=[0]) (N':=["number","book"]) Z9 T.l35 M rfl rfl (Aw Z9 rfl rfl rfl rfl rfl) rfl (.cons rfl rfl (Or.inl rfl) rfl (nQ Z9 rfl) (.nil rfl)) rfl G.in1 (λ_ _ _ _=>rfl) λ_ _ _ _ G=>have hu:=zK G;(a5 (Sm T) G)) G)) am)) a0))))
theorem UM:Fn P w K mg base 9 "is_sound" gG:=T.d36.fq T.hX tj ["book","known","number","sealer","day"] 3 λnd G hu=>
  (ao (bq (gA (dQ (bU (bj (a5 (UI T) G))) (dF (aB nU (bd (uL T) G (ak (aT (ah 0) (ah 2)) am)) (dq T.k11))))) cE)
   (ao (aD nd (bd (j9 T) G (ak (aT (ah 0) (ah 2)) (ak a0 am))))
   (ao (aD nd (bd (B9 T) G (ak (aT (ah 0) (ah 2)) am)))
   (aQ (dG (a5 (Wl T) G) (cI (a5 (Yl T) G)))))))
theorem UN:Fn P w K mg base 2 "is_alive" dL:=T.d37.fq T.hX tm ["claim","day"] 2 λnd G hu=>
  (aQ (bd (UH T) G (aF 1 (ak (aP (ak (bf 0) (ak (bf 0) am))) am))))
theorem UO:Fn P w K mg base 1 "by_since" fW:=T.d38.fq T.hX tq ["claim"] 1 λnd G hu=>
  (aQ (aP (ak (bf 0) (ak (bf 0) am))))
theorem Ym:Fn P w K mg base 5 "chief_of" nn:=T.d39.fq T.hX tu ["alive","rule"] 2 λnd G hu=>
  (ao (bq (aB (cx hu) (ah 1) a0) (aT (Ay Wb T.n9 (ah 0) (DD (UO T) (G.in1.mono V9) rfl) G) ax))
   (aQ (aT (Ay Uy T.n10 (ah 0) (DD (UO T) (G.in1.mono V9) rfl) G) ax)))
theorem Wm:Fn P w K mg base 6 "holder_by" jr:=T.d40.fq T.hX qo ["claimed","root","day","alive","people","person","oldest"] 3 λnd G hu=>
  (ao (kU ["claim","day","root"] nd (bR (ah 0)) (dE (gA (jX (aB (cx hu) (bf 0) (a5 (j9 T) G)) (iz (bj (a5 (UN T) G)))))) (ah 0))
   (ao (aD nd (mT rfl T.n13 T.n12 (eZ ["claim"] (bR (ah 3)) fK (bf 0))))
   (ao (bq (aB (cx hu) (aA cW T.n7 cQ (aF 4 am)) ax) (aP (ak a0 am)))
   (ao (bq (gA (jX (aB BR (aA cW T.n7 cQ (aF 4 am)) ax) (iz (aB (cx hu) (a5 (j9 T) G) a0)))) (aP (ak a0 (aF 4 am))))
   (ao (aD nd (bd (Ym T) G (aF 3 (ak (a5 (j9 T) G) am))))
   (ao (aD nd (Ay Uy T.n10 (eZ ["claim","person"] (bR (ah 3)) (dE (aB (cx hu) (bf 0) (ah 1))) (ah 0)) (DD (UO T) (G.in1.mono V9) rfl) G))
   (aQ (aP (ak a0 (aF 5 (ak (bf 6) am)))))))))))
theorem UP:Fn P w K mg base 7 "is_held_by" cY:=T.d41.fq T.hX o7 ["claimed","root","person","day"] 4 λnd G hu=>
  (aQ (bS (cx hu) (jE (a5 (Wm T) G) lY (lZ ax)) (aP (ak a0 (aF 2 am)))))
theorem Yn:Fn P w K mg base 8 "is_first_death" gH:=T.d42.fqL T.hX jN ["book","known","number","row","deaths"] 3 λnd G hu M=>
  (ao (aD nd (aT (ah 0) (ah 2)))
   (ao (aD nd (bd (UL T) G (aF 0 (aF 1 (ak (aP (ak a0 am)) (ak (a5 (j9 T) G) (ak (a5 (B9 T) G) am)))))))
   (aQ (bS (cx hu) (Ay Uy T.n10 (ah 4) (sf (cap:=[0]) (N':=["each","book"]) Z9 T.l42 M rfl rfl (Aw Z9 rfl rfl rfl rfl rfl) rfl (.cons rfl rfl (Or.inl rfl) rfl (nQ Z9 rfl) (.nil rfl)) rfl G.in1 (λ_ _ _ _=>rfl) λ_ _ _ _ G=>have hu:=zK G;(a5 (Sm T) G)) G) (ah 2)))))
theorem Yo:Fn P w K mg base 10 "counts" o8:=T.d43.fq T.hX AF ["book","known","so_far","number","row","root"] 4 λnd G hu=>
  (ao (aD nd (aT (ah 0) (ah 3)))
   (ao (bq (aB (cx hu) (a5 (uL T) G) a0) (a5 (Yn T) G))
   (ao (bq (aB nU (a5 (uL T) G) (aP (ak a0 (ak a0 (ak a0 am))))) cE)
   (ao (aD nd (HY (Qm hu) (a5 (UK T) G) (a5 (j9 T) G) ⟨rfl,rfl,rfl,rfl⟩))
   (ao (bq (aB yj (ah 5) cS) cE)
   (ao (bq (aB (cx hu) (a5 (uL T) G) a0) cE)
   (aQ (dG (a5 (UM T) G) (cI (bd (UP T) G (aF 2 (aF 5 (ak (a5 (j9 T) G) (ak (a5 (B9 T) G) am))))))))))))))
theorem Wn:Fn P w K mg base 3 "new_claim" hG:=T.d44.fq T.hX qp ["row","since","number"] 3 λnd G hu=>
  (aQ (aP (ak (a5 (j9 T) G) (ak (a5 (j9 T) G) (aF 1 (ak cS (aF 2 am)))))))
theorem Wo:Fn P w K mg base 3 "ended" qX:=T.d45.fq T.hX DW ["so_far","offices","person","day","left","claim"] 4 λnd G hu=>
  (ao (aD nd (bY am))
   (ao (oq (bR (ah 0)) (A2 5 nd) eD (be (fZ (gA (dQ (aB nU (bf 5) (ah 1)) (dQ (aB (vi hu) (bf 5) (ah 2)) (dF (bU (gA (dQ (bj (a5 (UN T) G)) (dF (aB BR (bf 5) (ah 3)))))))))) (be (gB (i:=4) (ah 5))) (be (fZ (aB rE (bf 5) (ah 3)) (be (gB (i:=4) (aP (ak (bf 5) (aF 2 (ak (bf 5) (aF 3 (ak (bf 5) am)))))))) fM)))))
   (be (gN 4))))
theorem Yp:Fn P w K mg base 4 "after_choice" iW:=T.d46.fq T.hX lG ["so_far","row","number","since","left"] 3 λnd G hu=>
  (ao (aD nd (a5 (j9 T) G))
   (ao (aD nd (bd (Wo T) G (aF 0 (ak (bY (ak (a5 (j9 T) G) am)) (ak (a5 (j9 T) G) (aF 3 am))))))
   (aQ (aE ca (ah 4) (bY (ak (a5 (Wn T) G) am))))))
theorem Yq:Fn P w K mg base 7 "inherited" lH:=T.d47.fq T.hX qq ["book","known","so_far","heirs","number","person","day","told","office","heir"] 5 λnd G hu=>
  (ao (aD nd (bd (j9 T) G (ak (aT (ah 0) (ah 4)) (ak a0 am))))
   (ao (aD nd (bd (B9 T) G (ak (aT (ah 0) (ah 4)) am)))
   (ao (aD nd (bY am))
   (ao (Hx [5,6] (oq (bR (mT rfl T.n13 T.n12 (eZ ["claim","person","day"] (bR (ah 2)) (dE (gA (jX (aB (cx hu) (bf 0) (ah 1)) (iz (bj (a5 (UN T) G)))))) (bf 0)))) (A2 8 nd) eD (ao (aD nd (Io (Qm hu) (ah 3) (aF 8 (aF 5 am)) ⟨rfl,rfl,rfl,rfl⟩))
   (be (fZ (gA (jX (aB qS (ah 9) cS) (iz (bj (a5 (Wl T) G))))) (be (gB (i:=7) (aP (aF 8 (aF 9 (aF 6 (ak cS (aF 4 am)))))))) fM)))))
   (be (gN 7))))))
theorem Yr:Fn P w K mg base 8 "after_death" j4:=T.d48.fq T.hX mI ["book","known","so_far","heirs","number","offices","left"] 5 λnd G hu=>
  (ao (kU ["claim"] nd (bR (ah 2)) fK (bf 0))
   (ao (aD nd (bd (Wo T) G (aF 2 (aF 5 (ak (bd (j9 T) G (ak (aT (ah 0) (ah 4)) (ak a0 am))) (ak (bd (B9 T) G (ak (aT (ah 0) (ah 4)) am)) am))))))
   (aQ (aE ca (ah 6) (a5 (Yq T) G)))))
theorem Ys:Fn P w K mg base 11 "claims" t6:=T.d49.fq T.hX AG ["book","known","so_far","heirs","number","row"] 2 λnd G hu=>
  (ao (aD nd (bY am))
   (ao (Lr (i:=3) nd)
   (ao (oq (bR (a5 (Wk T) G)) (A2 4 nd) eD (ao (aD nd (aT (ah 0) (ah 4)))
   (ao (fZ (bU (bj (a5 (Yo T) G))) (be Ld) fM)
   (be (fZ (aB (cx hu) (a5 (uL T) G) a0) (be (aD nd (aE ca (ah 2) (bY (ak (bd (Wn T) G (aF 5 (ak (a5 (B9 T) G) (aF 4 am)))) am))))) (be (fZ (aB (cx hu) (a5 (uL T) G) a0) (be (aD nd (a5 (Yp T) G))) (be (fZ (aB (cx hu) (a5 (uL T) G) a0) (be (Lu (i:=3) (Qm hu) (a5 (j9 T) G) (ak (a5 (j9 T) G) (ak (a5 (j9 T) G) am)))) (be (aD nd (a5 (Yr T) G))))))))))))
   (aQ (HR Cn T.n13 (ah 2) (DD (Yj T) (G.in1.in1.mono V9) rfl))))))
theorem Wp:Fn P w K mg base 2 "is_leave" gI:=T.d50.fq T.hX t7 ["book","known","number"] 3 λnd G hu=>
  (aQ (dG (a5 (UI T) G) (cI (bS (cx hu) (bd (uL T) G (ak (aT (ah 0) (ah 2)) am)) a0))))
theorem UQ:Fn P w K mg base 3 "is_borne" eG:=T.d51.fq T.hX t8 ["book","known","number"] 3 λnd G hu=>
  (aQ (rA (a5 (Wp T) G) (cI (a5 (UJ T) G))))
theorem Wq:Fn P w K mg base 1 "covers" iX:=T.d52.fq T.hX t9 ["matters","some"] 2 λnd G hu=>
  (aQ (bS (cx hu) (aE Rt (ah 0) (ah 1)) (ah 1)))
theorem Wr:Fn P w K mg base 3 "reach_bar" js:=T.d53.fq T.hX qr ["row","above"] 2 λnd G hu=>
  (ao (bq (bU (bj (bd (Wq T) G (ak (a5 (j9 T) G) (ak (a5 (j9 T) G) am))))) a0)
   (ao (bq (gA (jX (aB (cx hu) (a5 (uL T) G) a0) (iz (aB Ru (a5 (j9 T) G) (a5 (j9 T) G))))) a0)
   (aQ cS)))
theorem Yt:Fn P w K mg base 8 "office_bar" iA:=T.d54.fq T.hX o9 ["claimed","row","root"] 3 λnd G hu=>
  (ao (bq (bU (bj (bd (UP T) G (aF 0 (aF 2 (ak (a5 (j9 T) G) (ak (a5 (B9 T) G) am))))))) a0)
   (aQ (a5 (Wr T) G)))
theorem Yu:Fn P w K mg base 9 "office_bases" iY:=T.d55.fq T.hX lI ["book","known","claimed","number","row","bearing"] 4 λnd G hu=>
  (ao (aD nd (aT (ah 0) (ah 3)))
   (ao (kU ["root","claimed","row"] nd (DI (a5 (UK T) G)) (dE (aB yj (a5 (Yt T) G) cS)) (ah 0))
   (aQ (eZ ["root","claimed","row"] (bR (ah 5)) fK (aP (ak a0 (ak (a5 (j9 T) G) (ak (aT (bd (Wm T) G (aF 1 (aF 0 (ak (a5 (B9 T) G) am)))) ax) am))))))))
theorem Yv:Fn P w K mg base 1 "ends_within" j5:=T.d56.fq T.hX mJ ["stop","bound"] 2 λnd G hu=>
  (ao (bq (aB yj (ah 1) cS) cE)
   (aQ (dG (bS qS (ah 0) cS) (cI (bS ir (ah 0) (ah 1))))))
theorem Yw:Fn P w K mg base 2 "is_within" jt:=T.d57.fq T.hX qs ["one","other"] 2 λnd G hu=>
  (aQ (dG (bS ir (bf 1) (bf 0)) (cI (bd (Yv T) G (ak (bf 0) (ak (bf 1) am))))))
theorem Ws:Fn P w K mg base 5 "is_ahead" gJ:=T.d58.fq T.hX tE ["book","one","other"] 3 λnd G hu=>
  (aQ (bS (RE hu) (a5 (Sm T) G) (a5 (Sm T) G)))
theorem Yx:Fn P w K mg base 6 "leave_bar" lJ:=T.d59.fq T.hX qt ["book","number","leave","row","stretch"] 3 λnd G hu=>
  (ao (aD nd (aT (ah 0) (ah 1)))
   (ao (aD nd (bd (j9 T) G (ak (aT (ah 0) (ah 2)) (ak a0 am))))
   (ao (bq (bU (bj (a5 (Ws T) G))) a0)
   (ao (bq (gA (dQ (bU (bj (bd (UH T) G (ak (a5 (B9 T) G) (aF 4 am))))) (dF (bU (bj (bd (Yw T) G (ak (a5 (j9 T) G) (aF 4 am)))))))) a0)
   (aQ (bd (Wr T) G (aF 3 (ak (aT (ah 0) (ah 2)) am))))))))
theorem Yy:Fn P w K mg base 3 "leaves_to" lK:=T.d60.fq T.hX qu ["book","known","person","leaves"] 3 λnd G hu=>
  (ao (kU ["number","book","known"] nd (bR (a5 (Sl T) G)) (dE (bj (a5 (Wp T) G))) (ah 0))
   (aQ (eZ ["number","person","book"] (bR (ah 3)) (dE (aB (cx hu) (bd (j9 T) G (ak (aT (ah 2) (ah 0)) (ak a0 am))) (ah 1))) (ah 0))))
theorem Yz:Fn P w K mg base 7 "leave_bases" j6:=T.d61.fq T.hX mK ["book","known","number","leaves"] 3 λnd G hu=>
  (ao (aD nd (bd (Yy T) G (aF 0 (aF 1 (ak (bd (j9 T) G (ak (aT (ah 0) (ah 2)) (ak a0 am))) am)))))
   (aQ (eZ ["leave","book","number"] (bR (ah 3)) (dE (aB yj (a5 (Yx T) G) cS)) (aP (ak a0 (aF 0 am))))))
theorem Y0:Fn P w K mg base 6 "copy_bases" kF:=T.d62.fq T.hX oA ["book","known","number","of"] 3 λnd G hu=>
  (ao (aD nd (bd (j9 T) G (ak (aT (ah 0) (ah 2)) (ak a0 am))))
   (ao (bq (gA (jX (bj (a5 (UJ T) G)) (iz (bj (a5 (Ws T) G))))) (bY (ak (aP (ak a0 (aF 3 am))) am)))
   (aQ (bY am))))
theorem Y1:Fn P w K mg base 10 "bases_by" fX:=T.d63.fqL T.hX tF ["book","known","claimed","number","found"] 4 λnd G hu M=>
  (ao (bq (bU (bj (a5 (UQ T) G))) (bY am))
   (ao (bq (aB (cx hu) (bd (uL T) G (ak (aT (ah 0) (ah 3)) am)) a0) (a5 (Y0 T) G))
   (ao (aD nd (aE ca (a5 (Yu T) G) (a5 (Yz T) G)))
   (aQ (HR (Iu hu) T.n13 (ah 4) (sf (cap:=[]) (N':=["base"]) Z9 T.l63 M rfl rfl (Aw Z9 rfl rfl rfl rfl rfl) rfl (.nil rfl) rfl G.in1.in1 (λ_ _ _ _=>rfl) λ_ _ _ _ G=>have hu:=zK G;(aP (ak (aT (ah 0) (Rj Ry ax)) (aF 0 am)))))))))
theorem Y2:Fn P w K mg base 8 "may_call" no:=T.d64.fq T.hX tG ["book","known","claimed","call","number","row","caller","over"] 5 λnd G hu=>
  (ao (aD nd (aT (ah 0) (ah 4)))
   (ao (aD nd (bd (j9 T) G (ak (aT (ah 0) (ah 3)) (ak a0 am))))
   (ao (bq (aB (cx hu) (ah 6) (a5 (j9 T) G)) cE)
   (ao (bq (aB (cx hu) (a5 (uL T) G) a0) cE)
   (ao (kU ["root","row"] nd (DI (a5 (UK T) G)) (dE (bj (bd (Wq T) G (ak (a5 (j9 T) G) (ak (a5 (j9 T) G) am))))) (ah 0))
   (aQ (aA MJ T.n1 ML (ak (eZ ["root","claimed","caller","book","call"] (bR (ah 7)) fK (bd (UP T) G (aF 1 (aF 0 (aF 2 (ak (bd (B9 T) G (ak (aT (ah 3) (ah 4)) am)) am)))))) am))))))))
theorem Y3:Fn P w K mg base 10 "calls_in" kG:=T.d65.fq T.hX tH ["book","known","claimed","call","number","day","row"] 6 λnd G hu=>
  (ao (aD nd (aT (ah 0) (ah 3)))
   (ao (bq (gA (dQ (aB (vi hu) (a5 (uL T) G) a0) (dQ (aB (vi hu) (a5 (j9 T) G) (ah 4)) (dF (aB BR (a5 (B9 T) G) (ah 5)))))) cE)
   (aQ (dG (a5 (UM T) G) (cI (a5 (Y2 T) G))))))
theorem Y4:Fn P w K mg base 11 "calls_by" np:=T.d66.fq T.hX tI ["book","known","claimed","number","day"] 5 λnd G hu=>
  (ao (bq (bU (bj (a5 (UQ T) G))) (bY am))
   (aQ (eZ ["call","book","known","claimed","number","day"] (bR (a5 (Sl T) G)) (dE (bj (a5 (Y3 T) G))) (ah 0))))
theorem Y5:Fn P w K mg base 12 "is_fit" oB:=T.d67.fq T.hX AH ["book","known","claimed","number","day"] 5 λnd G hu=>
  (ao (bq (gA (dQ (bU (bj (a5 (UM T) G))) (dF (aB BR (bd (B9 T) G (ak (aT (ah 0) (ah 3)) am)) (ah 4))))) cE)
   (aQ (bS (cx hu) (aA cW T.n7 cQ (ak (a5 (Y4 T) G) am)) ax)))
theorem Y6:Fn P w K mg base 13 "links" yH:=T.d68.fq T.hX DX ["book","known","day","claimed","found","number"] 3 λnd G hu=>
  (ao (KS (i:=3) nd (a5 (Ys T) G))
   (ao (DH (i:=4) nd)
   (ao (oq (bR (a5 (Wk T) G)) (A2 5 nd) eD (be (fZ (gA (jX (bj (a5 (UQ T) G)) (iz (bj (a5 (Y5 T) G))))) (be (Iz (i:=4) (Qm hu) (a5 (Y1 T) G) (ah 5))) fM)))
   (be (gN 4)))))
theorem Y7:Fn P w K mg base 1 "bears" qY:=T.d69.fq T.hX DY ["base","among"] 2 λnd G hu=>
  (aQ (rA (bS (cx hu) (bf 0) a0) (cI (OQ (Qm hu) (bf 0) (ah 1)))))
theorem Y8:Fn P w K mg base 2 "stood" yI:=T.d70.fq T.hX DZ ["found","stands","number","resting"] 1 λnd G hu=>
  (ao (DH (i:=1) nd)
   (ao (oq (Iy (ah 0)) (ri rfl (fw (A2 2 nd) (fw (A2 3 nd) nG))) Hu (be (fZ (bj (aA MJ T.n1 ML (ak (eZ ["base","stands"] (bR (ah 3)) fK (a5 (Y7 T) G)) am))) (be (Ls (i:=1) (Qm hu) cE (ah 2))) fM)))
   (be (gN 1))))
theorem Y9:Fn P w K mg base 14 "standing" iZ:=T.d71.fq T.hX tJ ["book","known","day"] 3 λnd G hu=>
  (aQ (aA (F8 rfl) T.n13 rW (ak (bd (Y8 T) G (ak (a5 (Y6 T) G) am)) am)))
theorem Wt:Fn P w K mg base 3 "paper_behind" eI:=T.d72.fq T.hX lL ["book","number","row"] 2 λnd G hu=>
  (ao (aD nd (aT (ah 0) (ah 1)))
   (ao (Hf 1000 PassesOwn.never (aB (cx hu) (a5 (uL T) G) a0) (be (aD nd (aT (ah 0) (a5 (j9 T) G)))))
   (be (gN 2))))
theorem YA:Fn P w K mg base 15 "holding" pD:=T.d73.fq T.hX xf ["book","known","day","stands"] 3 λnd G hu=>
  (ao (kU ["number","book","known"] nd (bR (a5 (Y9 T) G)) (dE (bj (a5 (UJ T) G))) (ah 0))
   (aQ (eZ ["number","day","book"] (bR (ah 3)) (dE (bj (bd (UH T) G (aF 1 (ak (bd (j9 T) G (ak (a5 (Wt T) G) (ak a0 am))) am))))) (ah 0))))
theorem YB:Fn P w K mg base 4 "whom_of" xh:=T.d74.fq T.hX xg ["book","number"] 2 λnd G hu=>
  (aQ (bd (j9 T) G (ak (a5 (Wt T) G) (ak a0 am))))
theorem Wu:FnD P w K mg base 16 "holds" kH:=T.d75.fqD T.hX Ea ["book","known","day","number","person"] 5 λnd G hu=>
  (ao (bq (aB nU (ah 3) (a5 (YA T) G)) cE)
   (aQ (rA (bS yj (ah 4) cS) (cI (bS m8 (a5 (YB T) G) (aP (ak cS (aF 4 am))))))))
theorem YC:Fn P w K mg base 5 "as_heard" nq:=T.d76.fqL T.hX tK ["book"] 1 λnd G hu M=>
  (aQ (RM rfl T.n13 T.n11 (aA cW T.n7 cQ (aF 0 am)) (sf (cap:=[0]) (N':=["number","book"]) Z9 T.l76 M rfl rfl (Aw Z9 rfl rfl rfl rfl rfl) rfl (.cons rfl rfl (Or.inl rfl) rfl (nQ Z9 rfl) (.nil rfl)) rfl G.in1.in1 (λ_ _ _ _=>rfl) λ_ _ _ _ G=>have hu:=zK G;(aP (ak (aT (aT (ah 1) (ah 0)) ax) (aF 0 am))))))
theorem YD:Fn P w K mg base 1 "paced" yJ:=T.d77.fq T.hX Eb ["book","order"] 2 λnd G hu=>
  (aQ (jB D0 T.n15 gO (ak (eZ ["number","row","order"] (yr T.n4 (ah 0)) fK (aP (ak (IC U2 (ah 2) (ah 0)) (ak (bf 1) am)))) am)))
theorem Wv:Fn P w K mg base 17 "history" mo:=T.d78.fq T.hX xi ["book","day","number","order","rows","told","held","place","heard_now","now"] 3 λnd G hu=>
  (ao (aD nd (a5 (YC T) G))
   (ao (aD nd (a5 (YD T) G))
   (ao (aD nd (bY am))
   (ao (aD nd cE)
   (ao (Hx [3] (oq (yr T.n4 (ah 3)) (ri rfl (fw (A2 7 nd) (fw (A2 8 nd) nG))) Hu (ao (aD nd (MV (Wu T) G (aF 4 (aF 7 (aF 1 (aF 2 am))))))
   (ao (fZ (aB (vi hu) (ah 9) (ah 6)) (be (gB (i:=5) (aP (aF 8 (aF 9 am))))) fM)
   (be (aD nd (ah 9)))))))
   (be (gN 5)))))))
theorem Tw:Fn P w K mg base 1 "_law_cell" jO:=T.d79.fq T.hX AK ["_law_script","_law_k","_law_number"] 2 λnd G hu=>
  (ao (bq (aB rE (ah 1) (aA cW T.n7 cQ (aF 0 am))) (aT (ah 0) (ah 1)))
   (ao (aD nd (aE ca (aE mP ax (ah 1)) ax))
   (ao (fZ (aB BR (aA cW T.n7 cQ (aF 0 am)) ax) (be (aD nd (aE ca (aE ca (aE mP (aT (ah 0) (aE cz (aE mP (ah 1) ax) (aA cW T.n7 cQ (aF 0 am)))) ax) (aE mP (aE mP (ah 1) (ah 1)) ax)) ax))) fM)
   (aQ (aE cz (aE OT (ah 2) (ah 2)) ax)))))
theorem YE:Fn P w K mg base 1 "_law_names" pE:=T.d80.fq T.hX xj ["_law_cell_here","_law_letters","_law_base","_law_at","_law_names_here","_law_k","_law_name"] 1 λnd G hu=>
  (ao (aD nd a0)
   (ao (kU ["_law_k","_law_letters","_law_cell_here"] nd (rJ T.n11 (aE ca ax (aE cz (ah 0) ax))) fK (aT (ah 1) (aE cz (aE bZ (ah 2) (aE ca ax (aE mP ax (ah 0)))) ax)))
   (ao (aD nd (aE cz (aE bZ (ah 0) ax) (aA cW T.n7 cQ (aF 2 am))))
   (ao (aD nd (bY am))
   (ao (A3 (jC T.n11 ax) (A2 5 nd) eD (ao (aD nd (jB Hy T.n8 rH (aF 2 am)))
   (ao (O9 (i:=6) (aT (ah 1) (aE cz (aE ca (aE bZ (ah 0) ax) (aE mP ax (ah 5))) ax)) (ah 3))
   (be (gB (i:=4) (O1 PySem.F.slot_str_join PySem.F.type_str_join O4 Hs a0 (ah 6)))))))
   (be (gN 4)))))))
theorem UR:Fn P w K mg base 1 "_law_giver" iH:=T.d81.fq T.hX xl ["_law_rows_here","_law_cell_here","_law_names_here","_law_some"] 3 λnd G hu=>
  (ao (kU ["_law_row_here"] nd (bR (ah 0)) (dE (aB m8 (aT (bf 0) ax) (aP (ak a0 (ak a0 am))))) (aT (bf 0) ax))
   (ao (bq (aB BR (aE cz (ah 1) ax) ax) (aT (ah 3) (aE cz (aE bZ (ah 1) ax) (aA cW T.n7 cQ (aF 3 am)))))
   (aQ (aT (ah 2) (aE cz (aE bZ (ah 1) ax) ax)))))
theorem YF:Fn P w K mg base 2 "_law_sealed" nv:=T.d82.fq T.hX tM ["_law_rows_here","_law_word","_law_day","_law_cell_here","_law_names_here","_law_by","_law_matters","_law_stretch","_law_person","_law_changes"] 5 λnd G hu=>by
  refine @ao _ _ _ _ _ ?_ ?_;exact(aD nd (a5 (UR T) G));refine @ao _ _ _ _ _ ?_ ?_;refine @aD _ _ _ _ 6 _ _ nd ?_ rfl (by first|exact Or.inl rfl|exact Or.inr rfl) rfl u9;refine aT (hs:=?_) ?_ ?_;refine @bY _ _ _ _ ?_;refine @cJ _ _ _ _ _ _ ?_;refine @cJ _ _ _ _ _ _ ?_;refine @cJ _ _ _ _ _ _ ?_;refine @cJ _ _ _ _ _ _ ?_;refine @cJ _ _ _ _ _ _ ?_;refine @cJ _ _ _ _ _ _ ?_;exact am;exact(aE cz (aE bZ (ah 3) ax) ax);intro _ _;rfl;refine @ao _ _ _ _ _ ?_ ?_;refine @aD _ _ _ _ 7 _ _ nd ?_ rfl (by first|exact Or.inl rfl|exact Or.inr rfl) rfl u9;refine aT (hs:=?_) ?_ ?_;refine @bY _ _ _ _ ?_;refine m4 ?_ ?_;refine @aP _ _ _ _ _ ?_;refine @cJ _ _ _ _ _ _ ?_;refine dY ?_ ?_;exact cS;exact am;refine m4 ?_ ?_;refine @aP _ _ _ _ _ ?_;refine @cJ _ _ _ _ _ _ ?_;refine @cJ _ _ _ _ _ _ ?_;exact am;refine m4 ?_ ?_;refine @aP _ _ _ _ _ ?_;refine @cJ _ _ _ _ _ _ ?_;refine @cJ _ _ _ _ _ _ ?_;exact am;refine m4 ?_ ?_;refine @aP _ _ _ _ _ ?_;refine aF 2 ?_;refine Gp ?_ ?_;exact(aE ca (ah 2) ax);exact am;refine m4 ?_ ?_;refine @aP _ _ _ _ _ ?_;refine Gp ?_ ?_;exact(aE ca (ah 2) ax);refine dY ?_ ?_;exact cS;exact am;refine m4 ?_ ?_;refine @aP _ _ _ _ _ ?_;refine @cJ _ _ _ _ _ _ ?_;refine @cJ _ _ _ _ _ _ ?_;exact am;exact am;exact(aE cz (aE bZ (ah 3) ax) ax);intro _ _;rfl;refine @ao _ _ _ _ _ ?_ ?_;refine fZ (aB (cx hu) (ah 1) a0) ?_ ?_;refine @ao _ _ _ _ _ ?_ ?_;exact(aD nd (aT (ah 4) (aE cz (aE ca (aE ca (IC Tq (ah 4) (ah 5)) ax) (aE cz (aE bZ (ah 3) ax) ax)) ax)));refine aQ ?_;refine @aP _ _ _ _ _ ?_;refine dY ?_ ?_;exact a0;refine aF 2 ?_;refine aF 5 ?_;refine aF 8 ?_;refine aF 6 ?_;refine aF 7 ?_;refine kP ?_ ?_;refine aT (hs:=?_) ?_ ?_;refine @bY _ _ _ _ ?_;refine @cJ _ _ _ _ _ _ ?_;refine @cJ _ _ _ _ _ _ ?_;refine @cJ _ _ _ _ _ _ ?_;refine @cJ _ _ _ _ _ _ ?_;refine @cJ _ _ _ _ _ _ ?_;exact am;exact(aE cz (aE bZ (ah 3) ax) ax);intro _ _;rfl;exact am;exact fM;refine @ao _ _ _ _ _ ?_ ?_;refine bq (aB (cx hu) (ah 1) a0) ?_;refine @aP _ _ _ _ _ ?_;refine dY ?_ ?_;exact a0;refine aF 2 ?_;refine aF 5 ?_;refine aF 6 ?_;refine aF 7 ?_;refine kP ?_ ?_;refine aT (hs:=?_) ?_ ?_;refine @bY _ _ _ _ ?_;refine dY ?_ ?_;exact cS;refine kP ?_ ?_;exact(bf 4);exact am;exact(aE cz (aE bZ (ah 3) ax) ax);intro _ _;rfl;refine m4 ?_ ?_;refine @aP _ _ _ _ _ ?_;refine kP ?_ ?_;exact(bf 4);refine kP ?_ ?_;exact(bf 4);exact am;exact am;refine @ao _ _ _ _ _ ?_ ?_;refine fZ (aB (cx hu) (ah 1) a0) ?_ ?_;refine @ao _ _ _ _ _ ?_ ?_;refine @aD _ _ _ _ 9 _ _ nd ?_ rfl (by first|exact Or.inl rfl|exact Or.inr rfl) rfl u9;refine @aP _ _ _ _ _ ?_;refine m4 ?_ ?_;refine @aP _ _ _ _ _ ?_;refine Gp ?_ ?_;exact(aE cz (aE bZ (ah 3) ax) ax);refine kP ?_ ?_;exact(bf 4);exact am;exact am;refine aQ ?_;refine @aP _ _ _ _ _ ?_;refine dY ?_ ?_;exact a0;refine aF 2 ?_;refine aF 5 ?_;refine aF 6 ?_;refine aF 7 ?_;refine dY ?_ ?_;exact cS;refine Gp ?_ ?_;exact(aE cz (aE bZ (ah 3) ax) (aE ca (aA cW T.n7 cQ (aF 0 am)) ax));refine aF 9 ?_;exact am;exact fM;refine aQ ?_;refine @aP _ _ _ _ _ ?_;refine aF 1 ?_;refine aF 2 ?_;refine aF 5 ?_;refine Gp ?_ ?_;exact(aE cz (aE bZ (ah 3) ax) (aE ca (aA cW T.n7 cQ (aF 0 am)) ax));exact am
theorem YG:Fn P w K mg base 3 "_law_row" yK:=T.d83.fq T.hX Ec ["_law_rows_here","_law_cell_here","_law_names_here","_law_sorts","_law_word","_law_day","_law_noted","_law_left","_law_by"] 3 λnd G hu=>by
  refine @ao _ _ _ _ _ ?_ ?_;refine @aD _ _ _ _ 3 _ _ nd ?_ rfl (by first|exact Or.inl rfl|exact Or.inr rfl) rfl u9;refine @bY _ _ _ _ ?_;refine dY ?_ ?_;exact a0;refine dY ?_ ?_;exact a0;refine dY ?_ ?_;exact a0;refine dY ?_ ?_;exact a0;refine dY ?_ ?_;exact a0;refine dY ?_ ?_;exact a0;refine dY ?_ ?_;exact a0;refine dY ?_ ?_;exact a0;refine dY ?_ ?_;exact a0;refine dY ?_ ?_;exact a0;refine dY ?_ ?_;exact a0;refine dY ?_ ?_;exact a0;exact am;refine @ao _ _ _ _ _ ?_ ?_;refine @aD _ _ _ _ 3 _ _ nd ?_ rfl (by first|exact Or.inl rfl|exact Or.inr rfl) rfl u9;refine @aE _ _ _ _ _ _ _ _ ca ?_ ?_;exact(ah 3);refine @bY _ _ _ _ ?_;refine dY ?_ ?_;exact a0;refine dY ?_ ?_;exact a0;refine dY ?_ ?_;exact a0;refine dY ?_ ?_;exact a0;refine dY ?_ ?_;exact a0;refine dY ?_ ?_;exact a0;refine dY ?_ ?_;exact a0;refine dY ?_ ?_;exact a0;exact am;refine @ao _ _ _ _ _ ?_ ?_;exact(aD nd (aT (ah 3) (aE cz (ah 1) ax)));refine @ao _ _ _ _ _ ?_ ?_;exact(aD nd (aE ca (aE bZ (aA cW T.n7 cQ (aF 0 am)) ax) (aE cz (aE bZ (ah 1) ax) ax)));refine @ao _ _ _ _ _ ?_ ?_;refine @aD _ _ _ _ 6 _ _ nd ?_ rfl (by first|exact Or.inl rfl|exact Or.inr rfl) rfl u9;refine @aE _ _ _ _ _ _ _ _ ca ?_ ?_;exact(ah 5);refine aT (hs:=?_) ?_ ?_;refine @bY _ _ _ _ ?_;refine @cJ _ _ _ _ _ _ ?_;refine @cJ _ _ _ _ _ _ ?_;refine @cJ _ _ _ _ _ _ ?_;refine @cJ _ _ _ _ _ _ ?_;refine @cJ _ _ _ _ _ _ ?_;exact am;exact(aE cz (aE bZ (ah 1) ax) ax);intro _ _;rfl;refine @ao _ _ _ _ _ ?_ ?_;exact(aD nd (aE bZ (ah 1) ax));refine @ao _ _ _ _ _ ?_ ?_;refine bq (aB m8 (ah 4) (aP (ak a0 (ak a0 (ak a0 (ak a0 (ak a0 am))))))) ?_;refine @aP _ _ _ _ _ ?_;refine aF 6 ?_;refine Sk ?_ ?_;exact(a5 (YF T) G);exact am;refine @ao _ _ _ _ _ ?_ ?_;refine fZ (aB (cx hu) (ah 4) a0) ?_ ?_;refine @ao _ _ _ _ _ ?_ ?_;exact(aD nd (a5 (UR T) G));refine aQ ?_;refine @aP _ _ _ _ _ ?_;refine aF 6 ?_;refine m4 ?_ ?_;refine @aP _ _ _ _ _ ?_;refine dY ?_ ?_;exact a0;refine aF 5 ?_;refine aF 8 ?_;refine kP ?_ ?_;exact(bf 2);refine kP ?_ ?_;exact(aT (ah 2) (aE cz (aE bZ (ah 7) ax) ax));refine Gp ?_ ?_;exact(aE ca (ah 5) (aE cz (aE bZ (ah 7) ax) ax));exact am;exact am;exact fM;refine @ao _ _ _ _ _ ?_ ?_;refine bq (aB (cx hu) (ah 4) a0) ?_;refine @aP _ _ _ _ _ ?_;refine aF 6 ?_;refine m4 ?_ ?_;refine @aP _ _ _ _ _ ?_;refine dY ?_ ?_;exact a0;refine aF 5 ?_;refine Sk ?_ ?_;exact(a5 (UR T) G);refine kP ?_ ?_;exact(bf 2);refine kP ?_ ?_;exact(aT (ah 2) (aE cz (aE bZ (ah 7) ax) ax));exact am;exact am;refine @ao _ _ _ _ _ ?_ ?_;refine bq (aB (cx hu) (ah 4) a0) ?_;refine @aP _ _ _ _ _ ?_;refine aF 6 ?_;refine m4 ?_ ?_;refine @aP _ _ _ _ _ ?_;refine dY ?_ ?_;exact a0;refine aF 5 ?_;refine kP ?_ ?_;exact(aT (ah 2) (aE ca ax (aE cz (aE bZ (ah 7) ax) ax)));refine kP ?_ ?_;exact(aT (ah 2) (aE cz (aE bZ (ah 7) ax) ax));exact am;exact am;refine aQ ?_;refine @aP _ _ _ _ _ ?_;refine aF 6 ?_;refine m4 ?_ ?_;refine @aP _ _ _ _ _ ?_;refine aF 4 ?_;refine aF 5 ?_;refine kP ?_ ?_;exact(aT (ah 2) (aE cz (aE bZ (ah 7) ax) ax));exact am;exact am
theorem YH:Fn P w K mg base 4 "_law_rows" tN:=T.d84.fq T.hX AL ["_law_script","_law_cell_here","_law_names_here","_law_rows_here","_law_k"] 1 λnd G hu=>by
  refine @ao _ _ _ _ _ ?_ ?_;exact(aD nd (bd (Tw T) G (aF 0 (cJ am))));refine @ao _ _ _ _ _ ?_ ?_;exact(aD nd (bd (YE T) G (ak (bd (Tw T) G (aF 0 (cJ am))) am)));refine @ao _ _ _ _ _ ?_ ?_;refine @aD _ _ _ _ 3 _ _ nd ?_ rfl (by first|exact Or.inl rfl|exact Or.inr rfl) rfl u9;refine @bY _ _ _ _ ?_;refine m4 ?_ ?_;refine @aP _ _ _ _ _ ?_;refine @cJ _ _ _ _ _ _ ?_;refine m4 ?_ ?_;refine @aP _ _ _ _ _ ?_;refine dY ?_ ?_;exact a0;refine kP ?_ ?_;exact(bf 2);refine kP ?_ ?_;refine aT (hs:=?_) ?_ ?_;refine @bY _ _ _ _ ?_;refine @cJ _ _ _ _ _ _ ?_;refine @cJ _ _ _ _ _ _ ?_;refine @cJ _ _ _ _ _ _ ?_;exact am;exact(aE cz (ah 1) ax);intro _ _;rfl;refine @cJ _ _ _ _ _ _ ?_;refine kP ?_ ?_;refine aT (hs:=?_) ?_ ?_;refine @bY _ _ _ _ ?_;refine dY ?_ ?_;exact a0;refine dY ?_ ?_;exact a0;refine dY ?_ ?_;exact a0;exact am;exact(aE cz (aE bZ (ah 1) ax) ax);intro _ _;rfl;exact am;exact am;exact am;refine @ao _ _ _ _ _ ?_ ?_;refine gB (i:=3) ?_;refine @aP _ _ _ _ _ ?_;refine @cJ _ _ _ _ _ _ ?_;refine m4 ?_ ?_;refine @aP _ _ _ _ _ ?_;refine dY ?_ ?_;exact a0;refine @cJ _ _ _ _ _ _ ?_;refine kP ?_ ?_;exact(bf 2);refine kP ?_ ?_;exact(bf 2);exact am;exact am;refine @ao _ _ _ _ _ ?_ ?_;refine fZ (aB (cx hu) (aE cz (aE bZ (ah 1) ax) ax) ax) ?_ ?_;refine be ?_;refine gB (i:=3) ?_;refine @aP _ _ _ _ _ ?_;refine @cJ _ _ _ _ _ _ ?_;refine m4 ?_ ?_;refine @aP _ _ _ _ _ ?_;refine dY ?_ ?_;exact a0;refine kP ?_ ?_;exact(bf 2);refine @cJ _ _ _ _ _ _ ?_;refine @cJ _ _ _ _ _ _ ?_;refine dY ?_ ?_;exact a0;exact am;exact am;exact fM;refine @ao _ _ _ _ _ ?_ ?_;exact(A3 (jC T.n11 (aT (bY (ak (aA R1 T.n10 Rz (cJ (ak (aE ca ax (aE bZ (aA cW T.n7 cQ (aF 0 am)) ax)) am))) (cJ am))) (aE cz (aE bZ (ah 1) ax) ax))) (A2 4 nd) eD (be (gB (i:=3) (bd (YG T) G (aF 3 (ak (aE cz (bd (Tw T) G (aF 0 (ak (aE ca ax (ah 4)) am))) (aE Rr ax ax)) (aF 2 am)))))));exact(be (gN 3))
theorem YI:Fn P w K mg base 17 "_law_due" yL:=T.d85.fq T.hX Ed ["_law_rows_here","_law_day","_law_number","_law_some","_law_now","_law_due_here","_law_noted","_law_other","_law_heard_rows","_law_k","_law_deed","_law_truth"] 3 λnd G hu=>
  (ao (aD nd (bY am))
   (ao (aD nd cE)
   (ao (aD nd (bY am))
   (ao (Hx [9] (oq (bR (aA HK T.n13 rW (ak (eZ ["_law_k","_law_rows_here"] (rJ T.n11 (aA cW T.n7 cQ (aF 0 am))) fK (aP (ak (aT (aT (ah 1) (ah 0)) ax) (aF 0 am)))) am))) (ri rfl (fw (A2 6 nd) (fw (A2 7 nd) nG))) Hu (ao (gB (i:=3) (ah 7))
   (ao (aD nd (bY am))
   (ao (A3 (jC T.n11 (aA cW T.n7 cQ (aF 0 am))) (A2 9 nd) eD (ao (aD nd (aT (aT (ah 0) (ah 9)) ax))
   (be (fZ (aB m8 (ah 9) (ah 3)) (be (gB (i:=8) (aP (cJ (aF 10 am))))) (be (gB (i:=8) (aP (cJ (aF 10 am)))))))))
   (ao (aD nd (MV (Wu T) G (ak (a5 (Wj T) G) (cJ (aF 1 (aF 2 am))))))
   (ao (fZ (aB (vi hu) (ah 11) (ah 4)) (be (gB (i:=5) (aP (aF 7 (aF 11 am))))) fM)
   (be (aD nd (ah 11))))))))))
   (be (gN 5))))))
theorem Ww:Fn P w K mg base 1 "_law_told" oC:=T.d86.fq T.hX AM ["_law_found","_law_due_here","_law_row_here"] 2 λnd G hu=>
  (ao (bq (gA (dQ (bU (bj (aA b9 T.n6 bo (aF 0 (ak (gV T.n8 rH) am))))) (dF (aB (vi hu) (ah 0) (ah 1))))) cE)
   (ao (oq (bR (ah 0)) (A2 2 nd) eD (be (bq (gA (dQ (bU (bj (aA b9 T.n6 bo (aF 2 (ak (gV T.n15 gO) am))))) (dQ (bj (aA b9 T.n6 bo (ak (bf 2) (ak (gV T.n2 BU) am)))) (dF (bU (bj (aA b9 T.n6 bo (ak (bf 2) (ak (gV T.n2 BU) am))))))))) cE)))
   (aQ cE)))
theorem head {fa:Addr}(O:mg "law" = some (.ref fa)):∃fd:FuncData,(∀(s:Shared)(u:Value),BindsTo s fd ⟨[u],[]⟩ [("_law_script",u)])/\∀base:Heap,K.In base->base.Ns mainGlobals mg->uM P w K mg base zi 18 fa fd ["_law_script"] (Hg K F_law):=by
 have S:FnScope ["_law_script","_law_rows_here","_law_book","_law_papers","_law_k","_law_cell_here","_law_number","_law_day","_law_due_here","_law_found"] ["_law_script"] (aO (cZ 111)):=by refine⟨rfl,rfl,rfl,?_,rfl,?_,?_⟩<;>decide +kernel
 have ⟨h,X,G⟩:=T.hX;exact cB.law T.d87 X G O S (λ_ _ _ _ _ _ u=>rfl) λbase U a f dv A outer s H E M=>have hu:=zK M;have nd:=S.nd;(show wm _ _ MX from
  (ao (aD nd (a5 (YH T) M))
   (ao (aD nd (bd (Wj T) M (ak (jB Hy T.n8 rH (aF 1 am)) am)))
   (ao (aD nd (aE ca (eZ ["_law_k","_law_rows_here"] (rJ T.n11 (aA cW T.n7 cQ (aF 1 am))) (dE (aB m8 (aT (aT (aT (ah 1) (ah 0)) ax) ax) (aP (ak a0 (ak a0 (ak a0 am)))))) (ah 0)) (bY (cJ am))))
   (ao (A3 (jC T.n11 ax) (A2 4 nd) eD (ao (aD nd (bd (Tw T) M (aF 0 (ak (aE ca ax (ah 4)) am))))
   (ao (aD nd (aT (ah 3) (aE cz (ah 5) (aA cW T.n7 cQ (aF 3 am)))))
   (ao (aD nd (aE cz (aE bZ (ah 5) ax) ax))
   (ao (aD nd (a5 (YI T) M))
   (ao (aD nd (a5 (Wv T) M))
   (ao (bq (bU (bj (a5 (Ww T) M))) cE)
   (ao (gB (i:=9) (aP (cJ (ak cE am))))
   (be (bq (bU (bj (bd (Ww T) M (ak (a5 (Wv T) M) (aF 8 am))))) cE))))))))))
   (aQ cE))))))
end
end Lw
end
namespace PySem.W.Fast
def tw7552634993934784186:=()
def tw10382883696062752966:=()
def tw17414306533092021606:=()
def tw17873130431571322273:=()
def tw5718005323031301493:=()
def tw5800126415133748235:=()
def tw3652775057851452222:=()
def tw18186186759141434346:=()
def tw7136687159437907153:=()
def tw17402673540045001566:=()
def tw3236123639168546600:=()
def tw10754507462872262937:=()
def tw5254179927390520218:=()
def tw11498827728681820817:=()
def tw9566910407823057912:=()
def tw15771500506700392850:=()
def tw16634664136163103515:=()
def tw12688675194165659608:=()
def tw5946036664469038637:=()
def tw1082990268621577185:=()
def tw4581283117153743265:=()
def tw15084755378392184514:=()
def tw7692222891128635373:=()
def tw8253247178721244:=()
def tw10776704036932186661:=()
def tw12516491759091539628:=()
def tw17040733759518718023:=()
def tw15160768008284411028:=()
def tw8588374906908773441:=()
def tw4764389471265428128:=()
def tw2472732800757866565:=()
def tw9645547191312550507:=()
def tw13485177109674339042:=()
def tw16020738375656462838:=()
def tw538376645282604863:=()
def tw5218504194653739983:=()
def tw17924491887027839789:=()
def tw16818382136325089787:=()
def tw3579961471236036715:=()
def tw12840064019746201311:=()
def tw3241321135162483313:=()
def tw8533551912262058968:=()
def tw6946564286087717012:=()
def tw13907827251182066728:=()
def tw4146904820777430715:=()
def tw6430120654033183458:=()
def tw10548915332390067233:=()
def tw6790813226001646824:=()
def tw5124017589066939894:=()
def tw9500607444998526430:=()
def tw4750586501920471452:=()
def tw440265867784187958:=()
def tw4009032834968273766:=()
def tw9639039511464998000:=()
def tw17415859082217347405:=()
def tw8132007153078157090:=()
def tw2847724995625508057:=()
def tw8822464007553623133:=()
def tw10678538225019390797:=()
def tw11515162088491925855:=()
def tw17218199183487600844:=()
def tw3277546107317360210:=()
def tw5107150603514330927:=()
def tw6986537214828430742:=()
def tw14558310900471323869:=()
def tw17299161244361240565:=()
def tw66537861311154702:=()
def tw13563655574092130196:=()
def tw14886947887218136956:=()
def tw11289411690533377107:=()
def tw16409450625487687728:=()
def tw14251867081270410899:=()
def tw11979990621330634279:=()
def tw13776825463253670132:=()
def tw14591120439772039572:=()
def tw7087324719027361342:=()
def tw7347831729717448930:=()
def tw17328088745640023667:=()
def tw14979986750762538746:=()
def tw1850540028567264342:=()
def tw4570909487302715734:=()
def tw4084293569815870474:=()
def tw4796230519159206277:=()
def tw17515221629531592136:=()
def tw13613749370192771124:=()
def tw1801394023023291445:=()
def tw5139083295999054602:=()
def tw12777646150973512291:=()
def tw11462593182591687503:=()
def tw6193466287554576793:=()
def tw1841776071399285764:=()
def tw7565021214705136145:=()
def tw3956909250293997210:=()
def tw12519572010260712212:=()
def tw7198925659344032984:=()
def tw8264010164228664194:=()
def tw2788908572035738363:=()
def tw14552446347897229037:=()
def tw13008931757690314375:=()
def tw17932548888669785936:=()
def tw14948997821620720204:=()
def tw11378001738767117169:=()
def tw15368353279849860687:=()
def tw6400916801960461218:=()
def tw358715582658752378:=()
def tw1299964874921818247:=()
def tw3958873572699426172:=()
def tw9787434906219364109:=()
def tw7953222241206320916:=()
def tw9929153233629642757:=()
def tw6156102401413291864:=()
def tw5321895524218948665:=()
def tw15603366915242384070:=()
def tw7037240808940896597:=()
def tw13022872707056514311:=()
def tw16026904941613142148:=()
def tw6561815236442303024:=()
def tw6419285617231791492:=()
def tw15211539464831273798:=()
def tw14579334247522584679:=()
def tw9524751949906266349:=()
def tw15122687706752885144:=()
def tw17478157514404487412:=()
def tw14216672519979170680:=()
def tw3588995308865355731:=()
def tw9111669125669397857:=()
def tw4515222889780969165:=()
def tw6168602207489403975:=()
def tw5904503821769101585:=()
def tw1989030948314688093:=()
def tw8910287960329614598:=()
def tw626726473381554904:=()
def tw10522499652382234006:=()
def tw10220144374609677772:=()
def tw10167284471204754498:=()
def tw13416621433242500514:=()
def tw925714914538782610:=()
def tw8570927324593025580:=()
def tw16888665664877219701:=()
def tw3923710348763486374:=()
def tw130292567309615506:=()
def tw2688164970007070886:=()
def tw8367351112291741237:=()
def tw3090713726948941917:=()
def tw4211003791204307786:=()
def tw13495074951943475441:=()
def tw16452553326346965417:=()
def tw9001776811895671656:=()
def tw2624049998297869126:=()
def tw14426978197120369319:=()
def tw15014274458405762938:=()
def tw8316923863471956761:=()
def tw2682009356814897508:=()
def tw602485919380374180:=()
def tw15923535304844486427:=()
def tw13940010548187732368:=()
def tw2194536775466122559:=()
def tw7803579580278434942:=()
def tw10933848113124107448:=()
def tw7394782495114526530:=()
def tw6694788848803238874:=()
def tw6156998308744071404:=()
def tw11527472916752246481:=()
def tw15654040314914347776:=()
def tw7253280609326266755:=()
def tw11549792128782427006:=()
def tw14405811975215881802:=()
def tw10080874858631994532:=()
def tw14935938586449037582:=()
def tw8756907579311015758:=()
def tw14276039198327820270:=()
def tw13965067429785684772:=()
def tw15297341984835232532:=()
def tw10662114674799504228:=()
def tw3012138264989019160:=()
def tw6599611365073800530:=()
def tw5334523603399849828:=()
def tw8569973943794156415:=()
def tw1632015469364750555:=()
def tw7497598912475839779:=()
def tw609913987692360688:=()
def tw5037430918475930215:=()
def tw18262359309151655552:=()
def tw17127498956554775967:=()
def tw10977875188340404143:=()
def tw16181137770604226674:=()
def tw15719107876196206931:=()
def tw11882802056868291077:=()
def tw8984888680512162256:=()
def tw3520492600008133466:=()
def tw10990979281122855848:=()
def tw11479482131253311240:=()
def tw8084384277631299313:=()
def tw9639174381420026875:=()
def tw1166030108376371638:=()
def tw8112800884661359342:=()
def tw8023432193453031584:=()
def tw7513056152269314442:=()
def tw7078379602570669046:=()
def tw3783567128704558218:=()
def tw2956937576720374320:=()
def tw7814234151651263290:=()
def tw7586710209556794164:=()
def tw7563254502876126625:=()
def tw4269025364457711809:=()
def tw4181088364723425395:=()
def tw15168540755260074280:=()
def tw4542081785297395599:=()
def tw3220251665350498290:=()
def tw5155540670140996925:=()
def tw3240108448884938035:=()
def tw12413216706857325472:=()
def tw4385750764916244035:=()
def tw12688619076636511219:=()
def tw7731366209337025935:=()
def tw6841924622392921183:=()
def tw13464302462261749001:=()
def tw4699355568127005767:=()
def tw7136983796010895681:=()
def tw17790090512198438214:=()
def tw10559918947630593208:=()
def tw9498227566356372395:=()
def tw9529598530293289245:=()
def tw818666085849760326:=()
def tw2043399216981771976:=()
def tw6104142356218216044:=()
def tw2144385610334529574:=()
def tw12481340779742377059:=()
def tw16961376503784785691:=()
def tw2544590755849355523:=()
def tw17282514376929123201:=()
def tw14399741572955780516:=()
def tw8974982756175440237:=()
def tw998366606474458435:=()
def tw12131687099419836759:=()
def tw9181585455382776006:=()
def tw7378396117077720327:=()
def tw3643595165263140059:=()
def tw570145308476894987:=()
def tw14648160750267022107:=()
def tw611908438970149641:=()
def tw8879402836051624645:=()
def tw663060849005716147:=()
def tw7991334071111029499:=()
def tw6056153168157485516:=()
def tw2840602745233804370:=()
def tw11673867847764725758:=()
def tw9424535213570131092:=()
def tw4814627520315784138:=()
def tw10111264492957419489:=()
def tw9136837761022251913:=()
def tw7982360454638706461:=()
def tw7066114280024564470:=()
def tw488672378685857062:=()
def tw11760001981839612134:=()
def tw6138888315119855533:=()
def tw201712889253976080:=()
def tw3947211469764812749:=()
def tw8980013029195778059:=()
def tw8488123835786824123:=()
def tw3279787587011003506:=()
def tw17459458363454752375:=()
def tw8451912348449709871:=()
def tw5704437776884484373:=()
def tw902821761677072282:=()
def tw828126447527261302:=()
def tw4271554487372432396:=()
def tw3689398539100717407:=()
def tw16954129170613333314:=()
def tw9071913843492317820:=()
def tw5875341773074385683:=()
def tw2097311765466333368:=()
def tw12630908557901933351:=()
def tw8069493784111116807:=()
def tw10109625111835325784:=()
def tw6197603674823671867:=()
def tw6039990817168206270:=()
def tw2403807109562280316:=()
def tw17466152567718508426:=()
def tw1043596756388499962:=()
def tw9536141177957991640:=()
def tw5686237633330244872:=()
def tw8719056285508570808:=()
def tw1901841791832130405:=()
def tw1628842293126267637:=()
def tw15502010196881922846:=()
def tw15359454592680011207:=()
def tw7981695517081599227:=()
def tw3979998276633189754:=()
def tw10555208891343588368:=()
def tw7148870835053048810:=()
def tw5847214528794035885:=()
def tw2181042201043623773:=()
def tw17148992585765542170:=()
def tw16161358369476636909:=()
def tw15846261350102243686:=()
def tw12440755959094774219:=()
def tw10890274715023231760:=()
def tw5056940492750718206:=()
def tw18091902843625188802:=()
def tw15082030373187284692:=()
def tw1473628253519594034:=()
def tw12996129502607689056:=()
def tw8231475108426077791:=()
def tw6943861941953444902:=()
def tw17959295598701667196:=()
def tw15649253023804069397:=()
def tw13406500193029054219:=()
def tw10529103466872646964:=()
def tw16097347278205494442:=()
def tw11032799068185628835:=()
def tw336318148311815459:=()
def tw8118350836964853556:=()
def tw18315607648023766107:=()
def tw17286004853425174546:=()
def tw14221075406781924226:=()
def tw2034517557426276758:=()
def tw10077629621558469829:=()
def tw14247364495040267820:=()
def tw9913451022866617631:=()
def tw16840793000897350415:=()
def tw14721493671768226342:=()
def tw12423200551082258937:=()
def tw6945999986519333047:=()
def tw846356867622018602:=()
def tw18318745024308624809:=()
def tw12096953018448225980:=()
def tw12074499663006377240:=()
def tw3908988438653333724:=()
def tw2376916154700219812:=()
def tw1420630336692324363:=()
def tw6079761588771670113:=()
def tw8044006293411585282:=()
def tw3036781887797666672:=()
def tw16093496943497357744:=()
def tw18427197345531672405:=()
def tw1737569883017913273:=()
def tw12392956299753170999:=()
def tw8478139332498202553:=()
def tw8094985823423350100:=()
def tw10703906188278498120:=()
def tw7329980698869929704:=()
def tw16860398308404693782:=()
def tw8909114100723187602:=()
def tw4671294510811254557:=()
def tw4729095751118121518:=()
def tw8780037778506063762:=()
def tw13999869125837782803:=()
def tw6890786502520077176:=()
def tw8125509422239130110:=()
def tw3477184933415085723:=()
def tw6051719288919447606:=()
def tw6038610271905925224:=()
def tw16688450510840266873:=()
def tw14585659605874102419:=()
def tw10914432700932798198:=()
def tw10739440650764250181:=()
def tw1163197681078379435:=()
def tw4949650715780465309:=()
def tw2786970393919172565:=()
def tw13040436597388676649:=()
def tw8353765125546049710:=()
def tw17972693774045248803:=()
def tw17015026751550640664:=()
def tw8407618293085077209:=()
def tw6255673295087274804:=()
def tw3493751194187949763:=()
def tw7758843073576876078:=()
def tw6784198627771158836:=()
def tw16805829159419273331:=()
def tw6468891028830725467:=()
def tw16244800722317560325:=()
def tw9828218186467979985:=()
def tw9291305314833922964:=()
def tw2323273807674835245:=()
def tw17438366742102925902:=()
def tw10115224727087374211:=()
def tw12097683681588900230:=()
def tw7833486902724498925:=()
def tw5135646492226808170:=()
def tw381178162459385465:=()
def tw15516806563062253347:=()
def tw10993696715699376222:=()
def tw18139542352157630792:=()
def tw938295272915822679:=()
def tw12752588271163560900:=()
def tw18151898111001895765:=()
def tw5223354500107136710:=()
def tw2557289542862485180:=()
def tw9829995547597379862:=()
def tw9236871585539708126:=()
def tw912349380655539303:=()
def tw8804945576159360392:=()
def tw8064906113857864147:=()
def tw7354493942063756877:=()
def tw5145772713815625130:=()
def tw18395632717986456109:=()
def tw15616116638340695215:=()
def tw5184458901159041644:=()
def tw3521421900917062632:=()
def tw16388154823220483517:=()
def tw11516342345668803083:=()
def tw8741830794649480534:=()
def tw16165293970190725641:=()
def tw12997944410535175760:=()
def tw17263178490694753519:=()
def tw7997027164761575168:=()
def tw4104160285632419371:=()
def tw1177194191255345440:=()
def tw4271933328296897367:=()
def tw10347079204931030188:=()
def tw3309953500492284798:=()
end PySem.W.Fast
open PySem PySem.W PyProof.Rows
set_option maxRecDepth 100000 in
set_option maxHeartbeats 0 in
theorem PySem.Challenge.cw_sealchain_k45_what_was_heard_changes_holds : PySem.Challenge.rw_sealchain_k45_what_was_heard_changes.Holds := by
 w_on; o_law; k_head; (case hw => w_witness2)
 k_fill
 refine' DL.walkB (l := PySem.Challenge.rw_sealchain_k45_what_was_heard_changes) (k := 18) (x := ("_law_script" : PySem.Str)) (f := Lw.F_law) (L := [(("in_order" : PySem.Str), ?t0), (("has_seal" : PySem.Str), ?t1), (("is_first_death" : PySem.Str), ?t2), (("bases_by" : PySem.Str), ?t3), (("as_heard" : PySem.Str), ?t4)]) rfl rfl ⟨rfl, by decide, by decide⟩ (fun w h Y => PySem.W.km_in_of Y) ?T ?D ?F Lw.law_true
 case T =>
  intro w
  refine' DL.tabs_fit ?h0 ?h1 ?h2 ?h3 ?h4 ?ap ?nt
  (case h0 => refine' DL.tab_yes ?a ?l ?c ?m ?v; (case a => k_is); (case l => k_is); (case c => exact rfl); (case m => k_is); (case v => exact rfl))
  (case h1 => refine' DL.tab_yes ?a ?l ?c ?m ?v; (case a => k_is); (case l => k_is); (case c => exact rfl); (case m => k_is); (case v => exact rfl))
  (case h2 => refine' DL.tab_yes ?a ?l ?c ?m ?v; (case a => k_is); (case l => k_is); (case c => exact rfl); (case m => k_is); (case v => exact rfl))
  (case h3 => refine' DL.tab_yes ?a ?l ?c ?m ?v; (case a => k_is); (case l => k_is); (case c => exact rfl); (case m => k_is); (case v => exact rfl))
  (case h4 => refine' DL.tab_yes ?a ?l ?c ?m ?v; (case a => k_is); (case l => k_is); (case c => exact rfl); (case m => k_is); (case v => exact rfl))
  (case ap => decide)
  (case nt => kernel_rfl)
 case D => kernel_rfl
 case F =>
  intro w mg fa h KX G hmg
  refine' Lw.head ⟨⟨h, KX, G⟩, ?d0, ?d1, ?d2, ?d3, ?d4, ?d5, ?d6, ?d7, ?d8, ?d9, ?d10, ?d11, ?d12, ?d13, ?d14, ?d15, ?d16, ?d17, ?d18, ?d19, ?d20, ?d21, ?d22, ?d23, ?d24, ?d25, ?d26, ?d27, ?d28, ?d29, ?d30, ?d31, ?d32, ?d33, ?d34, ?d35, ?d36, ?d37, ?d38, ?d39, ?d40, ?d41, ?d42, ?d43, ?d44, ?d45, ?d46, ?d47, ?d48, ?d49, ?d50, ?d51, ?d52, ?d53, ?d54, ?d55, ?d56, ?d57, ?d58, ?d59, ?d60, ?d61, ?d62, ?d63, ?d64, ?d65, ?d66, ?d67, ?d68, ?d69, ?d70, ?d71, ?d72, ?d73, ?d74, ?d75, ?d76, ?d77, ?d78, ?d79, ?d80, ?d81, ?d82, ?d83, ?d84, ?d85, ?d86, ?d87, PySem.W.mg_none_of KX G ?z0, PySem.W.mg_none_of KX G ?z1, PySem.W.mg_none_of KX G ?z2, PySem.W.mg_none_of KX G ?z3, PySem.W.mg_none_of KX G ?z4, PySem.W.mg_none_of KX G ?z5, PySem.W.mg_none_of KX G ?z6, PySem.W.mg_none_of KX G ?z7, PySem.W.mg_none_of KX G ?z8, PySem.W.mg_none_of KX G ?z9, PySem.W.mg_none_of KX G ?z10, PySem.W.mg_none_of KX G ?z11, PySem.W.mg_none_of KX G ?z12, PySem.W.mg_none_of KX G ?z13, PySem.W.mg_none_of KX G ?z14, PySem.W.mg_none_of KX G ?z15, PySem.W.mg_none_of KX G ?z16, DL.kc_of KX G ?k0, DL.kc_of KX G ?k1, DL.kc_of KX G ?k2, DL.kc_of KX G ?k3, DL.kc_of KX G ?k4, DL.kc_of KX G ?k5, DL.kc_of KX G ?k6, DL.kc_of KX G ?k7, DL.kd_of KX G ?k8, DL.kc_of KX G ?k9, DL.kc_of KX G ?k10, DL.kc_of KX G ?k11, ?q0, ?q1, ?q2, ?q3, ?q4⟩ hmg
  iterate 75 (refine' DL.def_mk ?a ?l ?c ?k; (case a => k_is); (case l => k_is); (case c => k_is); (case k => k_is))
  (case d75 => refine' DL.defD_mk ?a ?l ?c ?k ?t; (case a => k_is); (case l => k_is); (case c => k_is); (case k => k_is); (case t => k_is))
  iterate 12 (refine' DL.def_mk ?a ?l ?c ?k; (case a => k_is); (case l => k_is); (case c => k_is); (case k => k_is))
  (case z0 => k_is)
  (case z1 => k_is)
  (case z2 => k_is)
  (case z3 => k_is)
  (case z4 => k_is)
  (case z5 => k_is)
  (case z6 => k_is)
  (case z7 => k_is)
  (case z8 => k_is)
  (case z9 => k_is)
  (case z10 => k_is)
  (case z11 => k_is)
  (case z12 => k_is)
  (case z13 => k_is)
  (case z14 => k_is)
  (case z15 => k_is)
  (case z16 => k_is)
  (case k0 => refine' DL.const_int ?e; (case e => k_is))
  (case k1 => refine' DL.const_int ?e; (case e => k_is))
  (case k2 => refine' DL.const_int ?e; (case e => k_is))
  (case k3 => refine' DL.const_int ?e; (case e => k_is))
  (case k4 => refine' DL.const_int ?e; (case e => k_is))
  (case k5 => refine' DL.const_int ?e; (case e => k_is))
  (case k6 => refine' DL.const_int ?e; (case e => k_is))
  (case k7 => refine' DL.const_tup ?e ?l ?v; (case e => k_is); (case l => k_is); (case v => decide +kernel))
  (case k8 => refine' DL.const_dict ?e ?l ?r ?s; (case e => k_is); (case l => k_is); (case r => refine' (DL.CRows.tup rfl ?l0 ?f0 (DL.CRows.tup rfl ?l1 ?f1 (DL.CRows.tup rfl ?l2 ?f2 (DL.CRows.tup rfl ?l3 ?f3 (DL.CRows.tup rfl ?l4 ?f4 (DL.CRows.tup rfl ?l5 ?f5 (DL.CRows.tup rfl ?l6 ?f6 (DL.CRows.tup rfl ?l7 ?f7 (DL.CRows.tup rfl ?l8 ?f8 (DL.CRows.tup rfl ?l9 ?f9 (DL.CRows.tup rfl ?l10 ?f10 (DL.CRows.tup rfl ?l11 ?f11 DL.CRows.nil)))))))))))); (case l0 => k_is); (case f0 => decide +kernel); (case l1 => k_is); (case f1 => decide +kernel); (case l2 => k_is); (case f2 => decide +kernel); (case l3 => k_is); (case f3 => decide +kernel); (case l4 => k_is); (case f4 => decide +kernel); (case l5 => k_is); (case f5 => decide +kernel); (case l6 => k_is); (case f6 => decide +kernel); (case l7 => k_is); (case f7 => decide +kernel); (case l8 => k_is); (case f8 => decide +kernel); (case l9 => k_is); (case f9 => decide +kernel); (case l10 => k_is); (case f10 => decide +kernel); (case l11 => k_is); (case f11 => decide +kernel)); (case s => decide +kernel))
  (case k9 => refine' DL.const_tup ?e ?l ?v; (case e => k_is); (case l => k_is); (case v => decide +kernel))
  (case k10 => refine' DL.const_tup ?e ?l ?v; (case e => k_is); (case l => k_is); (case v => decide +kernel))
  (case k11 => refine' DL.const_tup ?e ?l ?v; (case e => k_is); (case l => k_is); (case v => decide +kernel))
  (case q0 => refine' DL.lam_mk ?a ?l ?c ?m ?v1 ?v2 ?v3 ?v4 ?v5 ?v6 ?v7; (case a => k_is); (case l => k_is); (case c => exact rfl); (case m => k_is); (case v1 => exact rfl); (case v2 => exact rfl); (case v3 => exact rfl); (case v4 => exact rfl); (case v5 => exact rfl); (case v6 => exact rfl); (case v7 => decide))
  (case q1 => refine' DL.lam_mk ?a ?l ?c ?m ?v1 ?v2 ?v3 ?v4 ?v5 ?v6 ?v7; (case a => k_is); (case l => k_is); (case c => exact rfl); (case m => k_is); (case v1 => exact rfl); (case v2 => exact rfl); (case v3 => exact rfl); (case v4 => exact rfl); (case v5 => exact rfl); (case v6 => exact rfl); (case v7 => decide))
  (case q2 => refine' DL.lam_mk ?a ?l ?c ?m ?v1 ?v2 ?v3 ?v4 ?v5 ?v6 ?v7; (case a => k_is); (case l => k_is); (case c => exact rfl); (case m => k_is); (case v1 => exact rfl); (case v2 => exact rfl); (case v3 => exact rfl); (case v4 => exact rfl); (case v5 => exact rfl); (case v6 => exact rfl); (case v7 => decide))
  (case q3 => refine' DL.lam_mk ?a ?l ?c ?m ?v1 ?v2 ?v3 ?v4 ?v5 ?v6 ?v7; (case a => k_is); (case l => k_is); (case c => exact rfl); (case m => k_is); (case v1 => exact rfl); (case v2 => exact rfl); (case v3 => exact rfl); (case v4 => exact rfl); (case v5 => exact rfl); (case v6 => exact rfl); (case v7 => decide))
  (case q4 => refine' DL.lam_mk ?a ?l ?c ?m ?v1 ?v2 ?v3 ?v4 ?v5 ?v6 ?v7; (case a => k_is); (case l => k_is); (case c => exact rfl); (case m => k_is); (case v1 => exact rfl); (case v2 => exact rfl); (case v3 => exact rfl); (case v4 => exact rfl); (case v5 => exact rfl); (case v6 => exact rfl); (case v7 => decide))

